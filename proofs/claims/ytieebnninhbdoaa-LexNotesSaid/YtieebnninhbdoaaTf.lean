/-
  The contract of lex.Lines.
-/
import Derived.Test.YtieebnninhbdoaaTe
import Derived.Shelf.Strings.FieldsFuncAny
namespace Go.Proofs.Ytieebnninhbdoaa
open Go.RowKit Go.Shelf
attribute [local go_sem] Oper.semAt_some

theorem rowC_kept {W W' : World} {row : Option Nat} {b : Nat} {D : Array Value} {T : TypeId} (h : RowC W b D T) (hg : W.grownBy W' row) (hrow : ∀ r, row = some r → ∃ o : Obj, W.heap[r]? = some o ∧ o.isCells = false) : RowC W' b D T :=
  (grownBy_keeps_cells hg hrow h rfl).trans h
theorem ownC_kept {W W' : World} {row : Option Nat} {base z n c : Nat} {E : TypeId} {A : Option Addr} {F : Nat → Value} (h : OwnC W base E z A n c F) (hg : W.grownBy W' row) (hrow : ∀ r, row = some r → ∃ o : Obj, W.heap[r]? = some o ∧ o.isCells = false) : OwnC W' base E z A n c F := by
  obtain ⟨h1, h2⟩ := h
  refine ⟨h1, ?_⟩
  rcases h2 with h2 | ⟨gg, cap, cur, hv, hgb, hh, r⟩
  · exact .inl h2
  · exact .inr ⟨gg, cap, cur, hv, hgb, (grownBy_keeps_cells hg hrow hh rfl).trans hh, r⟩
theorem LR.kept {W W' : World} {row : Option Nat} {ls : List Ln} (h : LR W ls) (hg : W.grownBy W' row) (hrow : ∀ r, row = some r → ∃ o : Obj, W.heap[r]? = some o ∧ o.isCells = false) : LR W' ls :=
  h.of fun _ _ ⟨_, _, hc, _⟩ => grownBy_keeps_cells hg hrow hc rfl
theorem others_below {W W' : World} (h : Below W.heap.size W W') : KeepsOthers W W' := ⟨h.size, fun k _ ho _ => (h.block k (Array.getElem?_eq_some_iff.1 ho).1).trans ho⟩
theorem h_last (W : World) (o : Obj) (k : Nat) (hk : k = W.heap.size) : (W.alloc o).heap[k]? = some o := by subst hk; exact heap_alloc_last W o
theorem h_old (W : World) (o v : Obj) (k : Nat) (h : W.heap[k]? = some v) : (W.alloc o).heap[k]? = some v := by
  rw [Below.heap_alloc _ _ _ (Array.getElem?_eq_some_iff.1 h).1]
  exact h

theorem OwnC.own_cells {W : World} {base z k c : Nat} {E : TypeId} {A : Option Addr} {F : Nat → Value} (h : OwnC W base E z A k c F) (j : Nat) (o : Obj) (hj : (Value.slice A k c).ownBlock = some j) (ho : W.heap[j]? = some o) : o.isCells = true := by
  obtain ⟨_, h2⟩ := h
  rcases h2 with ⟨hv, _⟩ | ⟨gg, cap, cur, hv, _, hh, _⟩
  · injection hv with e1; subst e1; simp [Value.ownBlock] at hj
  · injection hv with e1; subst e1
    have e' : gg = j := by simpa [Value.ownBlock] using hj
    subst e'
    rw [hh] at ho
    injection ho with ho
    rw [← ho]; rfl
/-- A store into a row of another type leaves an own row as it was. -/
theorem ownC_setRow {W : World} {base z n c b : Nat} {E T : TypeId} {A : Option Addr} {F : Nat → Value} {D : Array Value} (h : OwnC W base E z A n c F) (hb : RowC W b D T) (hne : T ≠ E) (i : Nat) (v : Value) : OwnC (W.setCell ⟨b, i, none⟩ v) base E z A n c F := by
  obtain ⟨h1, h2⟩ := h
  refine ⟨h1, ?_⟩
  rcases h2 with h2 | ⟨gg, cap, cur, hv, hgb, hh, r⟩
  · exact .inl h2
  · refine .inr ⟨gg, cap, cur, hv, hgb, (Below.heap_setCell _ _ _ _ ?_).trans hh, r⟩
    intro e
    subst e
    rw [show W.heap[gg]? = _ from hb] at hh
    injection hh with hh
    injection hh with _ h3
    exact hne h3

theorem pre_last {n : Nat} {pre : List (Fin n)} {x : Fin n} (h : pre ++ [x] <+: List.finRange n) (i : Fin n) (hi : i.1 < x.1) : i ∈ pre := by
  obtain ⟨t, ht⟩ := h
  have h1 : (List.finRange n)[pre.length]? = some x := by
    rw [← ht, List.append_assoc, List.getElem?_append_right (Nat.le_refl _), Nat.sub_self]
    rfl
  have h2 : x.1 = pre.length := by
    obtain ⟨hl, he⟩ := List.getElem?_eq_some_iff.1 h1
    rw [← he]
    simp
  have h3 : (List.finRange n)[i.1]? = some i := by
    rw [List.getElem?_eq_getElem (by simp)]
    simp
  rw [← ht, List.append_assoc, List.getElem?_append_left (by omega)] at h3
  exact List.mem_of_getElem? h3

def LinesP (w : World) (L : List UInt8) (e : Ending) (w' : World) : Prop :=
  (((linesF L).2 = 0 ∧ ∃ A c ls, e = .returned (.tuple #[.slice A ls.length c, .int .i64 0, .int .i64 0]) ∧ ls.map Ln.tell = (linesF L).1 ∧ OwnC w' w.heap.size 35 2 A ls.length c (lcell ls) ∧ LR w' ls) ∨
    ((linesF L).2 ≠ 0 ∧ e = .returned (.tuple #[.slice none 0 0, .int .i64 ((linesF L).2 : Nat), .int .i64 13]))) ∧ Below w.heap.size w w'

set_option maxRecDepth 100000 in
set_option maxHeartbeats 1000000 in
theorem lines_long (s : ByteArray) (hs : 65536 < s.size) (w : World) : Calls Try.prog 10 #[.string s] w fun e w' => e = .returned (.tuple #[.slice none 0 0, .int .i64 0, .int .i64 3]) ∧ Below w.heap.size w w' := by
  have i1 : (65536 : Int) < (s.size : Int) := by omega
  go_enter Try.func10, Try.ntmps10
  go_wp2
  have r0 : RowC (((w.alloc (.cells #[.slice none 0 0] 22)).alloc (.cells #[.int .i64 0] 3)).alloc (.cells #[.int .i64 3] 23)) w.heap.size #[.slice none 0 0] 22 := h_old _ _ _ _ (h_old _ _ _ _ (h_last _ _ _ rfl))
  have r1 : RowC (((w.alloc (.cells #[.slice none 0 0] 22)).alloc (.cells #[.int .i64 0] 3)).alloc (.cells #[.int .i64 3] 23)) (w.heap.size + 1) #[.int .i64 0] 3 := h_old _ _ _ _ (h_last _ _ _ (by simp))
  have r2 : RowC (((w.alloc (.cells #[.slice none 0 0] 22)).alloc (.cells #[.int .i64 0] 3)).alloc (.cells #[.int .i64 3] 23)) (w.heap.size + 1 + 1) #[.int .i64 3] 23 := h_last _ _ _ (by simp)
  refine bodyPost_ret (results_cells3 Try.results10 _ _ ⟨w.heap.size, 0, none⟩ ⟨w.heap.size + 1, 0, none⟩ ⟨w.heap.size + 1 + 1, 0, none⟩ (.slice none 0 0) (.int .i64 0) (.int .i64 3) rfl rfl rfl (Try.isAgg22 _) (Try.isAgg3 _) (Try.isAgg23 _) ?_ ?_ ?_) rfl ⟨rfl, ?_⟩
  · exact r0.cell 0 _ rfl
  · exact r1.cell 0 _ rfl
  · exact r2.cell 0 _ rfl
  · exact (((Below.refl _ w).alloc (Nat.le_refl _) _).alloc (by simp) _).alloc (by simp; omega) _

theorem infoLn : (Try.prog.info? 35).map (fun i => (i.zero, i.size, i.bytes)) = some (some (.agg #[.int .i64 0, .slice none 0 0]), 2, 32) := by kernel_rfl
theorem each_stops (s : ByteArray) (hs : s.size ≤ 4294967296) (N : Nat) (hn : 1 ≤ N) (Bx : Nat) (w : World) (hBx : Bx < w.heap.size) (h1 : w.cell? ⟨Bx, 0, none⟩ = some (.string s)) :
    SeqStopsK Fence.wide N Try.prog 34 #[.pointer (some ⟨Bx, 0, none⟩)]
      (fun x : Fin (nl s.data.toList) => #[Value.int .i64 ((x.1 : Int) + 1), Value.string ⟨(lnAt s.data.toList x).toArray⟩]) (fun _ _ => True) (fun ys => ys = List.finRange (nl s.data.toList)) (fun pre => pre <+: List.finRange (nl s.data.toList)) (nl s.data.toList) w := fun l J Jx W hW hJ _ hY h0 =>
  each1_in N hn s hs l Bx J Jx W hJ hY ((hW.cell (p := ⟨Bx, 0, none⟩) hBx).trans h1) h0

/-- The variables of a call of Lines, and the lines so far. -/
def LnI (w : World) (L : List UInt8) (pre : List (Fin (nl L))) (W : World) : Prop :=
  ∃ A c ls, (RowC W w.heap.size #[.slice none 0 0] 22 ∧ RowC W (w.heap.size + 1) #[.int .i64 0] 3 ∧ RowC W (w.heap.size + 1 + 1) #[.int .i64 0] 23 ∧ RowC W (w.heap.size + 1 + 1 + 1) #[.slice A ls.length c] 22) ∧
    OwnC W w.heap.size 35 2 A ls.length c (lcell ls) ∧ LR W ls ∧ ls.map Ln.tell = accL L pre ∧ ∀ i ∈ pre, (nb (lnAt L i)).all okS = true
/-- .. and behind the first line that is wrong. -/
def LnX (w : World) (L : List UInt8) (pre : List (Fin (nl L))) (W : World) : Prop :=
  ∃ pre' x, pre = pre' ++ [x] ∧ (RowC W w.heap.size #[.slice none 0 0] 22 ∧ RowC W (w.heap.size + 1) #[.int .i64 ((x.1 + 1 : Nat) : Int)] 3 ∧ RowC W (w.heap.size + 1 + 1) #[.int .i64 13] 23) ∧
    (∀ i ∈ pre', (nb (lnAt L i)).all okS = true) ∧ (nb (lnAt L x)).all okS = false

set_option maxRecDepth 100000 in
set_option maxHeartbeats 8000000 in
theorem lines_any (s : ByteArray) (hs : s.size ≤ 65536) (w : World) : Calls Try.prog 10 #[.string s] w (LinesP w s.data.toList) := by
  have i1 : ¬ (65536 : Int) < (s.size : Int) := by omega
  have HS := Lib.hid hs
  refine (callsIn_wide (n := 8)).1 ?_
  have hro : (Fence.wide).round = none := rfl
  refine callsIn_of_wp_marks Try.func10 rfl trivial ?_ hro
  simp only [Try.ntmps10, List.size_toArray, List.length_cons, List.length_nil, Nat.reduceAdd, Nat.reduceSub, Array.replicate_succ, Array.replicate_zero, List.push_toArray, List.append_toArray, List.nil_append, List.cons_append]
  gi_wp2_with (refine ⟨trivial, ?_⟩; gi_at_call 21; refine (callsIn_wide.2 (each_any _ _)).mono ?_; rintro e w2 ⟨rfl, rfl⟩)
  have k0 : RowC (((((w.alloc (.cells #[.slice none 0 0] 22)).alloc (.cells #[.int .i64 0] 3)).alloc (.cells #[.int .i64 0] 23)).alloc (.cells #[.slice none 0 0] 22)).alloc (.cells #[.string s] 9)) w.heap.size #[.slice none 0 0] 22 := h_old _ _ _ _ (h_old _ _ _ _ (h_old _ _ _ _ (h_old _ _ _ _ (h_last _ _ _ rfl))))
  have k1 : RowC (((((w.alloc (.cells #[.slice none 0 0] 22)).alloc (.cells #[.int .i64 0] 3)).alloc (.cells #[.int .i64 0] 23)).alloc (.cells #[.slice none 0 0] 22)).alloc (.cells #[.string s] 9)) (w.heap.size + 1) #[.int .i64 0] 3 := h_old _ _ _ _ (h_old _ _ _ _ (h_old _ _ _ _ (h_last _ _ _ (by simp))))
  have k2 : RowC (((((w.alloc (.cells #[.slice none 0 0] 22)).alloc (.cells #[.int .i64 0] 3)).alloc (.cells #[.int .i64 0] 23)).alloc (.cells #[.slice none 0 0] 22)).alloc (.cells #[.string s] 9)) (w.heap.size + 1 + 1) #[.int .i64 0] 23 := h_old _ _ _ _ (h_old _ _ _ _ (h_last _ _ _ (by simp)))
  have k3 : RowC (((((w.alloc (.cells #[.slice none 0 0] 22)).alloc (.cells #[.int .i64 0] 3)).alloc (.cells #[.int .i64 0] 23)).alloc (.cells #[.slice none 0 0] 22)).alloc (.cells #[.string s] 9)) (w.heap.size + 1 + 1 + 1) #[.slice none 0 0] 22 := h_old _ _ _ _ (h_last _ _ _ (by simp))
  have k4 : RowC (((((w.alloc (.cells #[.slice none 0 0] 22)).alloc (.cells #[.int .i64 0] 3)).alloc (.cells #[.int .i64 0] 23)).alloc (.cells #[.slice none 0 0] 22)).alloc (.cells #[.string s] 9)) (w.heap.size + 1 + 1 + 1 + 1) #[.string s] 9 := h_last _ _ _ (by simp)
  have hsz : (((((w.alloc (.cells #[.slice none 0 0] 22)).alloc (.cells #[.int .i64 0] 3)).alloc (.cells #[.int .i64 0] 23)).alloc (.cells #[.slice none 0 0] 22)).alloc (.cells #[.string s] 9)).heap.size = w.heap.size + 5 := by simp
  have hbw : Below w.heap.size w (((((w.alloc (.cells #[.slice none 0 0] 22)).alloc (.cells #[.int .i64 0] 3)).alloc (.cells #[.int .i64 0] 23)).alloc (.cells #[.slice none 0 0] 22)).alloc (.cells #[.string s] 9)) := (((((Below.refl _ w).alloc (Nat.le_refl _) _).alloc (by simp) _).alloc (by simp; omega) _).alloc (by simp; omega) _).alloc (by simp; omega) _
  generalize (((((w.alloc (.cells #[.slice none 0 0] 22)).alloc (.cells #[.int .i64 0] 3)).alloc (.cells #[.int .i64 0] 23)).alloc (.cells #[.slice none 0 0] 22)).alloc (.cells #[.string s] 9)) = V0 at *
  refine wpIn_rangeFunc_ownG hro (by decide) (gf := 34) (lb := #[.pointer (some ⟨w.heap.size + 1 + 1 + 1 + 1, 0, none⟩)]) rfl trivial (enters_of Try.func34 (by kernel_rfl) rfl)
    (each_stops s (by omega) (8 - 1) (by decide) (w.heap.size + 1 + 1 + 1 + 1) V0 (by omega) (k4.cell 0 _ rfl)) (fun _ _ => trivial) (fun _ _ _ _ _ _ _ _ => trivial) (Below.refl _ _) (fun _ => rfl)
    (fun pre W => LnI w s.data.toList pre W ∧ Below w.heap.size w W) (fun c pre W => (c = .ret ∧ LnX w s.data.toList pre W) ∧ Below w.heap.size w W)
    (OwnFrom.and (Own.from (fun pre A B row hs hg hr => by
      obtain ⟨A', c, ls, ⟨h0, h1, h2, h3⟩, h4, h5, h6, h7⟩ := hs
      exact ⟨A', c, ls, ⟨rowC_kept h0 hg hr, rowC_kept h1 hg hr, rowC_kept h2 hg hr, rowC_kept h3 hg hr⟩, ownC_kept h4 hg hr, h5.kept hg hr, h6, h7⟩) _) (ownFrom_below (Nat.le_refl _) (by omega)))
    (fun cc => OwnFrom.and (Own.from (fun pre A B row hs hg hr => by
      obtain ⟨hcc, pre', x, h, ⟨h0, h1, h2⟩, h3, h4⟩ := hs
      exact ⟨hcc, pre', x, h, ⟨rowC_kept h0 hg hr, rowC_kept h1 hg hr, rowC_kept h2 hg hr⟩, h3, h4⟩) _) (ownFrom_below (Nat.le_refl _) (by omega)))
    ⟨⟨none, 0, [], ⟨k0, k1, k2, k3⟩, OwnC.nil_, fun x hx => (by cases hx), rfl, fun i hi => (by cases hi)⟩, hbw⟩
    (fun x => { tmps := #[.string s, undef, .pointer (some ⟨w.heap.size, 0, none⟩), .pointer (some ⟨w.heap.size + 1, 0, none⟩), .pointer (some ⟨w.heap.size + 1 + 1, 0, none⟩), .pointer (some ⟨w.heap.size + 1 + 1 + 1, 0, none⟩), .int .i64 ((x.1 : Int) + 1), .string ⟨(lnAt s.data.toList x).toArray⟩, undef, undef, .string s, .int .i64 s.size, .bool false, .string s, .func (.func 34) #[] #[.pointer (some ⟨w.heap.size + 1 + 1 + 1 + 1, 0, none⟩)], .int .i64 ((x.1 : Int) + 1), .string ⟨(lnAt s.data.toList x).toArray⟩, undef, undef, undef, undef, undef, undef, undef, undef, undef, undef, undef, undef, undef, undef, undef, undef, undef, undef], defers := [] }) ?assign ?body ?done ?stop
  case assign =>
    intro l x W K hK
    gi_wp2
    exact hK
  case body =>
    rintro l pre x W ⟨⟨A, c, ls, ⟨h0, h1, h2, h3⟩, h4, h5, h6, h7⟩, hB⟩ hlen
    have hls : ls.length ≤ pre.length := by
      have e := congrArg List.length h6
      have := accL_length s.data.toList pre
      rw [List.length_map] at e
      omega
    have hnl : nl s.data.toList ≤ s.data.toList.length + 1 := (lns_length s.data.toList).2
    have hsl : s.data.toList.length = s.size := Array.length_toList
    have hll := lns_mem s.data.toList (lnAt s.data.toList x) (List.getElem_mem _)
    have hsplit := fun Z => split_any ⟨(lnAt s.data.toList x).toArray⟩ (by show (lnAt s.data.toList x).toArray.size ≤ _; rw [List.size_toArray]; omega) Z
    have hdata : (⟨(lnAt s.data.toList x).toArray⟩ : ByteArray).data.toList = lnAt s.data.toList x := rfl
    rw [hdata] at hsplit
    have hwn := wds (nb (lnAt s.data.toList x))
    have H7 := Lib.hid h7
    have H6 := Lib.hid h6
    have H5 := Lib.hid h5
    have HB := Lib.hid hB
    have HX : Hid (∀ (ws : List (List UInt8)), wds (nb (lnAt s.data.toList x)) = ws → accL s.data.toList (pre ++ [x]) = if ws = [] then accL s.data.toList pre else accL s.data.toList pre ++ [(x.1 + 1, ws)]) := Lib.hid fun ws hws => by rw [accL_snoc, hws]
    have f0 := h0.cell 0 _ rfl
    have g0 := h0.frozen 0
    cases hok : (nb (lnAt s.data.toList x)).all okS
    · -- the first line that is wrong
      have HOK := Lib.hid hok
      have hsp : ∀ Z, Calls Try.prog 22 #[.string ⟨(lnAt s.data.toList x).toArray⟩] Z fun e w' => e = .returned (.tuple #[.slice none 0 0, .bool false]) ∧ Below Z.heap.size Z w' := fun Z => (hsplit Z).mono fun e w' hh => by
        obtain ⟨hc, hb⟩ := hh
        rcases hc with ⟨hc, _⟩ | ⟨_, hc⟩
        · rw [hok] at hc; cases hc
        · exact ⟨hc, hb⟩
      clear hsplit hok h7 h6 h5 hB
      have HH := Lib.hid (And.intro h0 (And.intro h1 h2))
      gi_wp2_with (refine ⟨trivial, ?_⟩; gi_at_call 22; refine (CallsIn.inRound l (callsIn_wide.2 (hsp W))).mono ?_; rintro e w4 ⟨rfl, hB4⟩; have q0 := (h0.below hB4 h0.lt).cell 0 _ rfl; have q1 := (h1.below hB4 h1.lt).cell 0 _ rfl; have q2 := (h2.below hB4 h2.lt).cell 0 _ rfl; have y0 := (h0.below hB4 h0.lt).frozen 0; have y1 := (h1.below hB4 h1.lt).frozen 0; have y2 := (h2.below hB4 h2.lt).frozen 0)
      have hb4 := HB.out
      obtain ⟨h0, h1, h2⟩ := HH.out
      have hk : w.heap.size ≤ W.heap.size := hb4.size
      have t0 := ((h0.below hB4 h0.lt).set 0 (.slice none 0 0)).setOther (g := w.heap.size + 1) 0 (.int .i64 ((x.1 : Int) + 1)) (by omega)
      have t1 := ((h1.below hB4 h1.lt).setOther (g := w.heap.size) 0 (.slice none 0 0) (by omega)).set 0 (.int .i64 ((x.1 : Int) + 1))
      have t2 := ((h2.below hB4 h2.lt).setOther (g := w.heap.size) 0 (.slice none 0 0) (by omega)).setOther (g := w.heap.size + 1) 0 (.int .i64 ((x.1 : Int) + 1)) (by omega)
      have s0 := t0.setOther (g := w.heap.size + 1 + 1) 0 (.int .i64 13) (by omega)
      have s1 := t1.setOther (g := w.heap.size + 1 + 1) 0 (.int .i64 13) (by omega)
      have s2 := t2.set 0 (.int .i64 13)
      refine ⟨((((others_below hB4).trans (KeepsOthers.setCell _ _ _)).trans (KeepsOthers.setCell _ _ _)).trans (KeepsOthers.setCell _ _ _)).from _, ⟨rfl, pre, x, rfl, ⟨s0, ?_, s2⟩, H7.out, HOK.out⟩,
        (((hb4.trans (hB4.mono hk)).setCell (p := ⟨w.heap.size, 0, none⟩) (Nat.le_refl _) _).setCell (p := ⟨w.heap.size + 1, 0, none⟩) (Nat.le_succ _) _).setCell (p := ⟨w.heap.size + 1 + 1, 0, none⟩) (by show w.heap.size ≤ w.heap.size + 1 + 1; omega) _⟩
      have e1 : ((x.1 + 1 : Nat) : Int) = (x.1 : Int) + 1 := by omega
      rw [e1]
      exact s1
    · cases hws : wds (nb (lnAt s.data.toList x)) with
      | nil =>
        have hsp : ∀ Z, Calls Try.prog 22 #[.string ⟨(lnAt s.data.toList x).toArray⟩] Z fun e w' => ∃ B, e = .returned (.tuple #[.slice (some ⟨B, 0, none⟩) 0 0, .bool true]) ∧ Below Z.heap.size Z w' := fun Z => (hsplit Z).mono fun e w' hh => by
          obtain ⟨hc, hb⟩ := hh
          rcases hc with ⟨_, B, hc, _⟩ | ⟨hc, _⟩
          · rw [hws] at hc
            exact ⟨B, hc, hb⟩
          · rw [hok] at hc; cases hc
        have HOK := Lib.hid hok
        have HWS := Lib.hid (HX.out _ hws)
        have HH := Lib.hid (And.intro h0 (And.intro h1 (And.intro h2 (And.intro h3 h4))))
        clear hsplit hok hws h7 h6 h5 hB
        gi_wp2_with (refine ⟨trivial, ?_⟩; gi_at_call 22; refine (CallsIn.inRound l (callsIn_wide.2 (hsp W))).mono ?_; rintro e w4 ⟨B4, rfl, hB4⟩)
        have hb4 := HB.out
        refine ⟨(others_below hB4).from _, trivial, ⟨A, c, ls, ⟨h0.below hB4 h0.lt, h1.below hB4 h1.lt, h2.below hB4 h2.lt, h3.below hB4 h3.lt⟩, h4.below hB4 (Nat.le_refl _), H5.out.below hB4, ?_, ?_⟩, hb4.trans (hB4.mono hb4.size)⟩
        · rw [H6.out, HWS.out]; exact (if_pos trivial).symm
        · intro i hi
          rcases List.mem_append.1 hi with hi | hi
          · exact H7.out i hi
          · rw [List.mem_singleton] at hi
            subst hi
            exact HOK.out
      | cons w0 wr =>
        obtain ⟨ws, hwe⟩ : ∃ ws, w0 :: wr = ws := ⟨_, rfl⟩
        have hne : ws ≠ [] := by rw [← hwe]; exact List.cons_ne_nil _ _
        rw [hwe] at hws
        have hsp : ∀ Z, Calls Try.prog 22 #[.string ⟨(lnAt s.data.toList x).toArray⟩] Z fun e w' => ∃ B, e = .returned (.tuple #[.slice (some ⟨B, 0, none⟩) ws.length ws.length, .bool true]) ∧ WR w' B ws ∧ Z.heap.size ≤ B ∧ Below Z.heap.size Z w' := fun Z => (hsplit Z).mono fun e w' hh => by
          obtain ⟨hc, hb⟩ := hh
          rcases hc with ⟨_, B, hc, hB0, hown⟩ | ⟨hc, _⟩
          · rw [hws] at hc hown
            exact ⟨B, hc, WR.of_own hown, hB0, hb⟩
          · rw [hok] at hc; cases hc
        have HOK := Lib.hid hok
        have HWS := Lib.hid (HX.out _ hws)
        have HNE := Lib.hid hne
        have hlen0 : (0 : Int) < (ws.length : Int) := by
          have := List.length_pos_iff.2 hne
          omega
        obtain ⟨i0, hi0, hz0, hz1, hz2⟩ := info_parts infoLn
        have HB0 : Hid (w.heap.size ≤ W.heap.size) := Lib.hid hB.size
        clear hsplit hok hws h7 h6 h5 hB hwe hne HX
        gi_wp2_with (first
          | (refine ⟨trivial, ?_⟩; gi_at_call 22; refine (CallsIn.inRound l (callsIn_wide.2 (hsp W))).mono ?_; rintro e w4 ⟨B4, rfl, hWR, hBz, hB4⟩
             have q3 := (h3.below hB4 h3.lt).cell 0 _ rfl
             have own4 := h4.below hB4 (Nat.le_refl _))
          | (gi_at_builtin
             refine wpListIn_append_own _ rfl _ _ 22 rfl w.heap.size 35 i0 _ 2 32 Try.underlying22 hi0 hz0 hz1 hz2 rfl (by decide) _ _ _ rfl (World.ownsRow.alloc own4 _) ⟨w4.heap.size, 0, none⟩ 1 1 [.int .i64 ((x.1 : Int) + 1), .slice (some ⟨B4, 0, none⟩) ws.length ws.length] rfl rfl (cell_two_new' _ _ _ _) (by simp [Value.oneCell']) (by unfold maxLen; omega) (by omega) (by have := hB4.size; have := HB0.out; simp; omega) ?_
             intro v' w7 hown7 hgrow7 _
             obtain ⟨A7, c7, rfl⟩ := ownsRow_parts hown7
             have hnr := (OwnC.alloc own4 (.cells #[.int .i64 ((x.1 : Int) + 1), .slice (some ⟨B4, 0, none⟩) ws.length ws.length] 35)).not_row (h_old _ _ _ _ (h3.below hB4 h3.lt)) (by decide)
             have hlt4 : w.heap.size + 1 + 1 + 1 < (w4.alloc (.cells #[.int .i64 ((x.1 : Int) + 1), .slice (some ⟨B4, 0, none⟩) ws.length ws.length] 35)).heap.size := by have := (h3.below hB4 h3.lt).lt; simp; omega
             have r3 : RowC w7 (w.heap.size + 1 + 1 + 1) #[.slice A ls.length c] 22 := (hgrow7.block _ hlt4 hnr).trans (h_old _ _ _ _ (h3.below hB4 h3.lt))
             have q37 := r3.cell 0 _ rfl
             have y37 := r3.frozen 0))
        have hb4 := HB.out
        have hk : w.heap.size ≤ W.heap.size := hb4.size
        have hbl : Below w.heap.size w4 w7 := ((Below.refl _ w4).alloc (by have := hB4.size; omega) _).grown hgrow7 (by have := hB4.size; simp; omega) (fun k e => by have := (World.ownsRow.lt own4 k e).1; omega)
        have hne3 : ∀ b', (∃ cur T, w4.heap[b']? = some (Obj.cells cur T) ∧ T ≠ 35) → w7.heap[b']? = w4.heap[b']? := fun b' hh => by
          obtain ⟨cur, T, hc, hT⟩ := hh
          have hb' : b' < w4.heap.size := (Array.getElem?_eq_some_iff.1 hc).1
          exact (hgrow7.block b' (by simp; omega) ((OwnC.alloc own4 (.cells #[.int .i64 ((x.1 : Int) + 1), .slice (some ⟨B4, 0, none⟩) ws.length ws.length] 35)).not_row (h_old _ _ _ _ hc) hT)).trans (Below.heap_alloc _ _ _ hb')
        have z0 := (h0.below hB4 h0.lt)
        have z1 := (h1.below hB4 h1.lt)
        have z2 := (h2.below hB4 h2.lt)
        have r0 : RowC w7 _ _ _ := (hne3 _ ⟨_, _, z0, by decide⟩).trans z0
        have r1 : RowC w7 _ _ _ := (hne3 _ ⟨_, _, z1, by decide⟩).trans z1
        have r2 : RowC w7 _ _ _ := (hne3 _ ⟨_, _, z2, by decide⟩).trans z2
        have hlr : LR (w7.setCell ⟨w.heap.size + 1 + 1 + 1, 0, none⟩ (.slice A7 (ls.length + 1) c7)) (ls ++ [⟨x.1 + 1, B4, ws.length, ws⟩]) := by
          have h4r : LR w4 (ls ++ [⟨x.1 + 1, B4, ws.length, ws⟩]) := fun y hy => by
            rcases List.mem_append.1 hy with hy | hy
            · exact H5.out.below hB4 y hy
            · rw [List.mem_singleton] at hy
              subst hy
              exact ⟨HNE.out, Nat.le_refl _, hWR⟩
          have h7r : LR w7 (ls ++ [⟨x.1 + 1, B4, ws.length, ws⟩]) := h4r.of fun b' _ ⟨cur, T, hc, hT⟩ => hne3 b' ⟨cur, T, hc, by rw [hT]; decide⟩
          refine h7r.of fun b' _ ⟨cur, T, hc, hT⟩ => Below.heap_setCell _ _ _ _ ?_
          intro e
          have e' : b' = w.heap.size + 1 + 1 + 1 := e
          subst e'
          rw [show w7.heap[w.heap.size + 1 + 1 + 1]? = _ from r3] at hc
          injection hc with hc
          injection hc with _ hc
          rw [hT] at hc
          exact absurd hc (by decide)
        have hown8 : OwnC (w7.setCell ⟨w.heap.size + 1 + 1 + 1, 0, none⟩ (.slice A7 (ls.length + 1) c7)) w.heap.size 35 2 A7 (ls ++ [(⟨x.1 + 1, B4, ws.length, ws⟩ : Ln)]).length c7 (lcell (ls ++ [⟨x.1 + 1, B4, ws.length, ws⟩])) := by
          have h7o : OwnC w7 w.heap.size 35 2 A7 (ls ++ [(⟨x.1 + 1, B4, ws.length, ws⟩ : Ln)]).length c7 (lcell (ls ++ [⟨x.1 + 1, B4, ws.length, ws⟩])) := by
            unfold OwnC
            rw [← lcells_snoc]
            rw [List.length_append]
            exact hown7
          exact ownC_setRow h7o r3 (by decide) 0 _
        refine ⟨((((others_below hB4).trans (KeepsOthers.alloc _ _)).trans (KeepsOthers.of_grownBy hgrow7 fun j o hj ho => (OwnC.alloc own4 _).own_cells j o hj ho)).trans (KeepsOthers.setCell _ _ _)).from _, trivial, ⟨A7, c7, ls ++ [⟨x.1 + 1, B4, ws.length, ws⟩], ⟨r0.setOther _ _ (by omega), r1.setOther _ _ (by omega), r2.setOther _ _ (by omega), ?_⟩, hown8, hlr, ?_, ?_⟩, ((hb4.trans (hB4.mono hk)).trans hbl).setCell (p := ⟨w.heap.size + 1 + 1 + 1, 0, none⟩) (by show w.heap.size ≤ w.heap.size + 1 + 1 + 1; omega) _⟩
        · rw [List.length_append]
          exact r3.set 0 _
        · rw [HWS.out, if_neg HNE.out, List.map_append, H6.out]
          rfl
        · intro i hi
          rcases List.mem_append.1 hi with hi | hi
          · exact H7.out i hi
          · rw [List.mem_singleton] at hi
            subst hi
            exact HOK.out
  case done =>
    rintro D ys W hD rfl ⟨⟨A, c, ls, ⟨h0, h1, h2, h3⟩, h4, h5, h6, h7⟩, hB⟩ hK
    have hlin : linesF s.data.toList = (accL s.data.toList (List.finRange (nl s.data.toList)), 0) := lines_ok _ fun i => h7 i (List.mem_finRange i)
    have q0 := h0.cell 0 _ rfl
    have q1 := h1.cell 0 _ rfl
    have q2 := h2.cell 0 _ rfl
    have q3 := h3.cell 0 _ rfl
    have y0 := h0.frozen 0
    have y1 := h1.frozen 0
    have y2 := h2.frozen 0
    have HH := Lib.hid (And.intro h0 (And.intro h1 (And.intro h2 (And.intro h4 (And.intro h5 (And.intro h6 (And.intro hB hlin)))))))
    clear h0 h1 h2 h3 h4 h5 h6 h7 hB hlin
    gi_wp2
    obtain ⟨h0, h1, h2, h4, h5, h6, hB, hlin⟩ := HH.out
    have hK1 := ((((KeepsOthers.setCell W ⟨w.heap.size, 0, none⟩ (.slice A ls.length c)).trans (KeepsOthers.setCell _ ⟨w.heap.size + 1, 0, none⟩ (.int .i64 0))).trans (KeepsOthers.setCell _ ⟨w.heap.size + 1 + 1, 0, none⟩ (.int .i64 0)))).same D _ hK rfl
    have t0 := ((h0.set 0 (.slice A ls.length c)).setOther (g := w.heap.size + 1) 0 (.int .i64 0) (by omega)).setOther (g := w.heap.size + 1 + 1) 0 (.int .i64 0) (by omega)
    have t1 := ((h1.setOther (g := w.heap.size) 0 (.slice A ls.length c) (by omega)).set 0 (.int .i64 0)).setOther (g := w.heap.size + 1 + 1) 0 (.int .i64 0) (by omega)
    have t2 := ((h2.setOther (g := w.heap.size) 0 (.slice A ls.length c) (by omega)).setOther (g := w.heap.size + 1) 0 (.int .i64 0) (by omega)).set 0 (.int .i64 0)
    have o1 := ownC_setRow h4 h0 (by decide) 0 (.slice A ls.length c)
    have o2 := ownC_setRow o1 (h1.setOther (g := w.heap.size) 0 (.slice A ls.length c) (by omega)) (by decide) 0 (.int .i64 0)
    have o3 := ownC_setRow o2 ((h2.setOther (g := w.heap.size) 0 (.slice A ls.length c) (by omega)).setOther (g := w.heap.size + 1) 0 (.int .i64 0) (by omega)) (by decide) 0 (.int .i64 0)
    have o4 := ownC_kept o3 (grownBy_putObj' _ D (.deferred none)) (fun r e => by cases e; exact ⟨_, hK1, rfl⟩)
    have l1 : LR (((W.setCell ⟨w.heap.size, 0, none⟩ (.slice A ls.length c)).setCell ⟨w.heap.size + 1, 0, none⟩ (.int .i64 0)).setCell ⟨w.heap.size + 1 + 1, 0, none⟩ (.int .i64 0)) ls := h5.of fun b' _ hh => by
      obtain ⟨cur, T, hc, hT⟩ := hh
      have n0 : b' ≠ w.heap.size := fun e => by
        rw [e, show W.heap[w.heap.size]? = _ from h0] at hc
        injection hc with hc
        injection hc with _ hc
        rw [hT] at hc
        exact absurd hc (by decide)
      have n1 : b' ≠ w.heap.size + 1 := fun e => by
        rw [e, show W.heap[w.heap.size + 1]? = _ from h1] at hc
        injection hc with hc
        injection hc with _ hc
        rw [hT] at hc
        exact absurd hc (by decide)
      have n2 : b' ≠ w.heap.size + 1 + 1 := fun e => by
        rw [e, show W.heap[w.heap.size + 1 + 1]? = _ from h2] at hc
        injection hc with hc
        injection hc with _ hc
        rw [hT] at hc
        exact absurd hc (by decide)
      rw [Below.heap_setCell _ _ _ _ n2, Below.heap_setCell _ _ _ _ n1, Below.heap_setCell _ _ _ _ n0]
    have l2 := l1.kept (grownBy_putObj' _ D (.deferred none)) (fun r e => by cases e; exact ⟨_, hK1, rfl⟩)
    have k0 := rowC_kept t0 (grownBy_putObj' _ D (.deferred none)) (fun r e => by cases e; exact ⟨_, hK1, rfl⟩)
    have k1 := rowC_kept t1 (grownBy_putObj' _ D (.deferred none)) (fun r e => by cases e; exact ⟨_, hK1, rfl⟩)
    have k2 := rowC_kept t2 (grownBy_putObj' _ D (.deferred none)) (fun r e => by cases e; exact ⟨_, hK1, rfl⟩)
    refine ⟨by simp, .inl ⟨_, _, rfl, run_takeDeferred hK1, ?_⟩⟩
    refine ⟨_, results_cells3 Try.results10 _ _ ⟨w.heap.size, 0, none⟩ ⟨w.heap.size + 1, 0, none⟩ ⟨w.heap.size + 1 + 1, 0, none⟩ (.slice A ls.length c) (.int .i64 0) (.int .i64 0) rfl rfl rfl (Try.isAgg22 _) (Try.isAgg3 _) (Try.isAgg23 _) (k0.cell 0 _ rfl) (k1.cell 0 _ rfl) (k2.cell 0 _ rfl), .inl ⟨?_, A, c, ls, rfl, ?_, o4, l2⟩, ((((hB.setCell (p := ⟨w.heap.size, 0, none⟩) (Nat.le_refl _) _).setCell (p := ⟨w.heap.size + 1, 0, none⟩) (Nat.le_succ _) _).setCell (p := ⟨w.heap.size + 1 + 1, 0, none⟩) (by show w.heap.size ≤ w.heap.size + 1 + 1; omega) _)).trans (belowK_b (w := w) (Nat.le_refl _) _ D _ _ (by omega) hK1 rfl rfl)⟩
    · rw [hlin]
    · rw [hlin]; exact h6
  case stop =>
    rintro D c pre W hD hpre ⟨⟨rfl, pre', x, rfl, ⟨h0, h1, h2⟩, h3, h4⟩, hB⟩ hK
    have hlin : linesF s.data.toList = ([], x.1 + 1) := lines_bad _ x (fun i hi => h3 i (pre_last hpre i hi)) h4
    gi_wp2
    refine ⟨by simp, .inl ⟨_, _, rfl, run_takeDeferred hK, ?_⟩⟩
    have k0 := rowC_kept h0 (grownBy_putObj' _ D (.deferred none)) (fun r e => by cases e; exact ⟨_, hK, rfl⟩)
    have k1 := rowC_kept h1 (grownBy_putObj' _ D (.deferred none)) (fun r e => by cases e; exact ⟨_, hK, rfl⟩)
    have k2 := rowC_kept h2 (grownBy_putObj' _ D (.deferred none)) (fun r e => by cases e; exact ⟨_, hK, rfl⟩)
    refine ⟨_, results_cells3 Try.results10 _ _ ⟨w.heap.size, 0, none⟩ ⟨w.heap.size + 1, 0, none⟩ ⟨w.heap.size + 1 + 1, 0, none⟩ (.slice none 0 0) (.int .i64 ((x.1 + 1 : Nat) : Int)) (.int .i64 13) rfl rfl rfl (Try.isAgg22 _) (Try.isAgg3 _) (Try.isAgg23 _) (k0.cell 0 _ rfl) (k1.cell 0 _ rfl) (k2.cell 0 _ rfl), .inr ⟨?_, ?_⟩, hB.trans (belowK_b (w := w) (Nat.le_refl _) W D _ _ (by omega) hK rfl rfl)⟩
    · rw [hlin]; exact Nat.succ_ne_zero _
    · rw [hlin]
end Go.Proofs.Ytieebnninhbdoaa
