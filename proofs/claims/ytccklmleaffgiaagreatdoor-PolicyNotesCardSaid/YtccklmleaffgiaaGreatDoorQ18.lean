/-
  The document's words of a line.
-/
import Derived.Test.YtccklmleaffgiaaGreatDoorQ17
import Derived.Shelf.Strings.FieldsFuncAny
import Derived.Test.YtccklmleaffgiaaGreatDoorShb
import Derived.Shelf.Strings.BuilderK
import Derived.BigQuiet
namespace Go.Proofs.YtccklmleaffgiaaGreatDoor
open Go.RowKit

theorem infoS : (Tryz.prog.info? 9).map (fun i => (i.zero, i.size, i.bytes)) = some (some (.string ⟨#[]⟩), 1, 16) := by kernel_rfl
theorem ixStrT (S : ByteArray) (p : Nat) (b : UInt8) (h : S.data.toList[p]? = some b) (W : World) : (Instr.index 9 (.string S) (.int .i64 p)).run Tryz.prog W = .ok (.int .u8 b.toNat) W := by
  have hp : p < S.size := by
    have := (List.getElem?_eq_some_iff.1 h).1
    rw [Array.length_toList] at this
    exact this
  have hb : S[p]'hp = b := by
    obtain ⟨h1, h2⟩ := List.getElem?_eq_some_iff.1 h
    simpa [ByteArray.getElem_eq_getElem_data] using h2
  simp [Instr.index, run_underlying Tryz.underlying9, asIntOf, hp, hb, go_sem]
/-- Words as cells. -/
def strs (ws : List (List UInt8)) (i : Nat) : Value := .string ⟨(ws.getD i []).toArray⟩
theorem nb_cons (c : UInt8) (t : List UInt8) (h : c ≠ 35) : nb (c :: t) = c :: nb t := by
  unfold nb
  rw [List.takeWhile_cons, if_pos (by simpa using h)]
theorem wdF_length : ∀ (l w : List UInt8) (out : List (List UInt8)), (wdF l w out).length ≤ out.length + w.length + l.length
  | [], w, out => by
    show (psh out w).length ≤ _
    cases w with
    | nil => exact Nat.le_add_right _ _
    | cons c t => show (out ++ [c :: t]).length ≤ _; simp
  | c :: t, w, out => by
    show (if blk c = true then wdF t [] (psh out w) else wdF t (w ++ [c]) out).length ≤ _
    split
    · have h1 := wdF_length t [] (psh out w)
      have h2 : (psh out w).length ≤ out.length + w.length := by
        cases w with
        | nil => exact Nat.le_add_right _ _
        | cons c t => show (out ++ [c :: t]).length ≤ _; simp
      simp only [List.length_nil, List.length_cons] at h1 ⊢
      omega
    · have h1 := wdF_length t (w ++ [c]) out
      simp only [List.length_append, List.length_cons, List.length_nil] at h1 ⊢
      omega
end Go.Proofs.YtccklmleaffgiaaGreatDoor

/-
  lex.Lines once more: the words' slices have no room behind them.
-/
namespace Go.Proofs.YtccklmleaffgiaaGreatDoor
open Go.RowKit Go.Shelf
attribute [local go_sem] Oper.semAt_some

def LRc (w : World) (ls : List Ln) : Prop := ∀ x ∈ ls, x.ws ≠ [] ∧ x.ws.length = x.cap ∧ WR w x.b x.ws
theorem LRc.of {w w' : World} {ls : List Ln} (h : LRc w ls) (hb : ∀ b, b < w.heap.size → (∃ cur T, w.heap[b]? = some (.cells cur T) ∧ T = 9) → w'.heap[b]? = w.heap[b]?) : LRc w' ls := fun x hx => by
  obtain ⟨h1, h3, h2⟩ := h x hx
  refine ⟨h1, h3, h2.of_block (hb _ h2.lt ?_)⟩
  obtain ⟨cur, hc, _⟩ := h2
  exact ⟨cur, _, hc, rfl⟩
theorem LRc.below {w w' : World} {ls : List Ln} (h : LRc w ls) (hb : Below w.heap.size w w') : LRc w' ls := h.of fun b hlt _ => hb.block b hlt
theorem LRc.kept {W W' : World} {row : Option Nat} {ls : List Ln} (h : LRc W ls) (hg : W.grownBy W' row) (hrow : ∀ r, row = some r → ∃ o : Obj, W.heap[r]? = some o ∧ o.isCells = false) : LRc W' ls :=
  h.of fun _ _ ⟨_, _, hc, _⟩ => grownBy_keeps_cells hg hrow hc rfl
def LinesC (w : World) (L : List UInt8) (e : Ending) (w' : World) : Prop :=
  (((linesF L).2 = 0 ∧ ∃ A c ls, e = .returned (.tuple #[.slice A ls.length c, .int .i64 0, .int .i64 0]) ∧ ls.map Ln.tell = (linesF L).1 ∧ OwnC w' w.heap.size 87 2 A ls.length c (lcell ls) ∧ LRc w' ls) ∨
    ((linesF L).2 ≠ 0 ∧ e = .returned (.tuple #[.slice none 0 0, .int .i64 ((linesF L).2 : Nat), .int .i64 13]))) ∧ Below w.heap.size w w'

/-- The variables of a call of Lines, and the lines so far. -/
def LnIc (w : World) (L : List UInt8) (pre : List (Fin (nl L))) (W : World) : Prop :=
  ∃ A c ls, (RowC W w.heap.size #[.slice none 0 0] 56 ∧ RowC W (w.heap.size + 1) #[.int .i64 0] 3 ∧ RowC W (w.heap.size + 1 + 1) #[.int .i64 0] 27 ∧ RowC W (w.heap.size + 1 + 1 + 1) #[.slice A ls.length c] 56) ∧
    OwnC W w.heap.size 87 2 A ls.length c (lcell ls) ∧ LRc W ls ∧ ls.map Ln.tell = accL L pre ∧ ∀ i ∈ pre, (nb (lnAt L i)).all okS = true
set_option maxRecDepth 100000 in
set_option maxHeartbeats 8000000 in
theorem lines_cap (s : ByteArray) (hs : s.size ≤ 65536) (w : World) : Calls Tryz.prog 19 #[.string s] w (LinesC w s.data.toList) := by
  have i1 : ¬ (65536 : Int) < (s.size : Int) := by omega
  have HS := Lib.hid hs
  refine (callsIn_wide (n := 8)).1 ?_
  have hro : (Fence.wide).round = none := rfl
  refine callsIn_of_wp_marks Tryz.func19 rfl trivial ?_ hro
  simp only [Tryz.ntmps19, List.size_toArray, List.length_cons, List.length_nil, Nat.reduceAdd, Nat.reduceSub, Array.replicate_succ, Array.replicate_zero, List.push_toArray, List.append_toArray, List.nil_append, List.cons_append]
  gi_wp2_with (refine ⟨trivial, ?_⟩; gi_at_call 30; refine (callsIn_wide.2 (each_any _ _)).mono ?_; rintro e w2 ⟨rfl, rfl⟩)
  have k0 : RowC (((((w.alloc (.cells #[.slice none 0 0] 56)).alloc (.cells #[.int .i64 0] 3)).alloc (.cells #[.int .i64 0] 27)).alloc (.cells #[.slice none 0 0] 56)).alloc (.cells #[.string s] 9)) w.heap.size #[.slice none 0 0] 56 := h_old _ _ _ _ (h_old _ _ _ _ (h_old _ _ _ _ (h_old _ _ _ _ (h_last _ _ _ rfl))))
  have k1 : RowC (((((w.alloc (.cells #[.slice none 0 0] 56)).alloc (.cells #[.int .i64 0] 3)).alloc (.cells #[.int .i64 0] 27)).alloc (.cells #[.slice none 0 0] 56)).alloc (.cells #[.string s] 9)) (w.heap.size + 1) #[.int .i64 0] 3 := h_old _ _ _ _ (h_old _ _ _ _ (h_old _ _ _ _ (h_last _ _ _ (by simp))))
  have k2 : RowC (((((w.alloc (.cells #[.slice none 0 0] 56)).alloc (.cells #[.int .i64 0] 3)).alloc (.cells #[.int .i64 0] 27)).alloc (.cells #[.slice none 0 0] 56)).alloc (.cells #[.string s] 9)) (w.heap.size + 1 + 1) #[.int .i64 0] 27 := h_old _ _ _ _ (h_old _ _ _ _ (h_last _ _ _ (by simp)))
  have k3 : RowC (((((w.alloc (.cells #[.slice none 0 0] 56)).alloc (.cells #[.int .i64 0] 3)).alloc (.cells #[.int .i64 0] 27)).alloc (.cells #[.slice none 0 0] 56)).alloc (.cells #[.string s] 9)) (w.heap.size + 1 + 1 + 1) #[.slice none 0 0] 56 := h_old _ _ _ _ (h_last _ _ _ (by simp))
  have k4 : RowC (((((w.alloc (.cells #[.slice none 0 0] 56)).alloc (.cells #[.int .i64 0] 3)).alloc (.cells #[.int .i64 0] 27)).alloc (.cells #[.slice none 0 0] 56)).alloc (.cells #[.string s] 9)) (w.heap.size + 1 + 1 + 1 + 1) #[.string s] 9 := h_last _ _ _ (by simp)
  have hsz : (((((w.alloc (.cells #[.slice none 0 0] 56)).alloc (.cells #[.int .i64 0] 3)).alloc (.cells #[.int .i64 0] 27)).alloc (.cells #[.slice none 0 0] 56)).alloc (.cells #[.string s] 9)).heap.size = w.heap.size + 5 := by simp
  have hbw : Below w.heap.size w (((((w.alloc (.cells #[.slice none 0 0] 56)).alloc (.cells #[.int .i64 0] 3)).alloc (.cells #[.int .i64 0] 27)).alloc (.cells #[.slice none 0 0] 56)).alloc (.cells #[.string s] 9)) := (((((Below.refl _ w).alloc (Nat.le_refl _) _).alloc (by simp) _).alloc (by simp; omega) _).alloc (by simp; omega) _).alloc (by simp; omega) _
  generalize (((((w.alloc (.cells #[.slice none 0 0] 56)).alloc (.cells #[.int .i64 0] 3)).alloc (.cells #[.int .i64 0] 27)).alloc (.cells #[.slice none 0 0] 56)).alloc (.cells #[.string s] 9)) = V0 at *
  refine wpIn_rangeFunc_ownG hro (by decide) (gf := 54) (lb := #[.pointer (some ⟨w.heap.size + 1 + 1 + 1 + 1, 0, none⟩)]) rfl trivial (enters_of Tryz.func54 (by kernel_rfl) rfl)
    (each_stops s (by omega) (8 - 1) (by decide) (w.heap.size + 1 + 1 + 1 + 1) V0 (by omega) (k4.cell 0 _ rfl)) (fun _ _ => trivial) (fun _ _ _ _ _ _ _ _ => trivial) (Below.refl _ _) (fun _ => rfl)
    (fun pre W => LnIc w s.data.toList pre W ∧ Below w.heap.size w W) (fun c pre W => (c = .ret ∧ LnX w s.data.toList pre W) ∧ Below w.heap.size w W)
    (OwnFrom.and (Own.from (fun pre A B row hs hg hr => by
      obtain ⟨A', c, ls, ⟨h0, h1, h2, h3⟩, h4, h5, h6, h7⟩ := hs
      exact ⟨A', c, ls, ⟨rowC_kept h0 hg hr, rowC_kept h1 hg hr, rowC_kept h2 hg hr, rowC_kept h3 hg hr⟩, ownC_kept h4 hg hr, h5.kept hg hr, h6, h7⟩) _) (ownFrom_below (Nat.le_refl _) (by omega)))
    (fun cc => OwnFrom.and (Own.from (fun pre A B row hs hg hr => by
      obtain ⟨hcc, pre', x, h, ⟨h0, h1, h2⟩, h3, h4⟩ := hs
      exact ⟨hcc, pre', x, h, ⟨rowC_kept h0 hg hr, rowC_kept h1 hg hr, rowC_kept h2 hg hr⟩, h3, h4⟩) _) (ownFrom_below (Nat.le_refl _) (by omega)))
    ⟨⟨none, 0, [], ⟨k0, k1, k2, k3⟩, OwnC.nil_, fun x hx => (by cases hx), rfl, fun i hi => (by cases hi)⟩, hbw⟩
    (fun x => { tmps := #[.string s, undef, .pointer (some ⟨w.heap.size, 0, none⟩), .pointer (some ⟨w.heap.size + 1, 0, none⟩), .pointer (some ⟨w.heap.size + 1 + 1, 0, none⟩), .pointer (some ⟨w.heap.size + 1 + 1 + 1, 0, none⟩), .int .i64 ((x.1 : Int) + 1), .string ⟨(lnAt s.data.toList x).toArray⟩, undef, undef, .string s, .int .i64 s.size, .bool false, .string s, .func (.func 54) #[] #[.pointer (some ⟨w.heap.size + 1 + 1 + 1 + 1, 0, none⟩)], .int .i64 ((x.1 : Int) + 1), .string ⟨(lnAt s.data.toList x).toArray⟩, undef, undef, undef, undef, undef, undef, undef, undef, undef, undef, undef, undef, undef, undef, undef, undef, undef, undef], defers := [] }) ?assign ?body ?done ?stop
  case assign =>
    intro l x W K hK
    gi_wp2
    exact hK
  case body =>
    rintro l pre x W ⟨⟨A, c, ls, ⟨h0, h1, h2, h3⟩, h4, h5, h6, h7⟩, hB⟩ hlen
    have hls : ls.length ≤ pre.length := by
      have e := congrArg List.length h6
      have := accL_length s.data.toList pre
      rw [List.length_map] at e
      omega
    have hnl : nl s.data.toList ≤ s.data.toList.length + 1 := (lns_length s.data.toList).2
    have hsl : s.data.toList.length = s.size := Array.length_toList
    have hll := lns_mem s.data.toList (lnAt s.data.toList x) (List.getElem_mem _)
    have hsplit := fun Z => split_any ⟨(lnAt s.data.toList x).toArray⟩ (by show (lnAt s.data.toList x).toArray.size ≤ _; rw [List.size_toArray]; omega) Z
    have hdata : (⟨(lnAt s.data.toList x).toArray⟩ : ByteArray).data.toList = lnAt s.data.toList x := rfl
    rw [hdata] at hsplit
    have hwn := wds (nb (lnAt s.data.toList x))
    have H7 := Lib.hid h7
    have H6 := Lib.hid h6
    have H5 := Lib.hid h5
    have HB := Lib.hid hB
    have HX : Hid (∀ (ws : List (List UInt8)), wds (nb (lnAt s.data.toList x)) = ws → accL s.data.toList (pre ++ [x]) = if ws = [] then accL s.data.toList pre else accL s.data.toList pre ++ [(x.1 + 1, ws)]) := Lib.hid fun ws hws => by rw [accL_snoc, hws]
    have f0 := h0.cell 0 _ rfl
    have g0 := h0.frozen 0
    cases hok : (nb (lnAt s.data.toList x)).all okS
    · -- the first line that is wrong
      have HOK := Lib.hid hok
      have hsp : ∀ Z, Calls Tryz.prog 31 #[.string ⟨(lnAt s.data.toList x).toArray⟩] Z fun e w' => e = .returned (.tuple #[.slice none 0 0, .bool false]) ∧ Below Z.heap.size Z w' := fun Z => (hsplit Z).mono fun e w' hh => by
        obtain ⟨hc, hb⟩ := hh
        rcases hc with ⟨hc, _⟩ | ⟨_, hc⟩
        · rw [hok] at hc; cases hc
        · exact ⟨hc, hb⟩
      clear hsplit hok h7 h6 h5 hB
      have HH := Lib.hid (And.intro h0 (And.intro h1 h2))
      gi_wp2_with (refine ⟨trivial, ?_⟩; gi_at_call 31; refine (CallsIn.inRound l (callsIn_wide.2 (hsp W))).mono ?_; rintro e w4 ⟨rfl, hB4⟩; have q0 := (h0.below hB4 h0.lt).cell 0 _ rfl; have q1 := (h1.below hB4 h1.lt).cell 0 _ rfl; have q2 := (h2.below hB4 h2.lt).cell 0 _ rfl; have y0 := (h0.below hB4 h0.lt).frozen 0; have y1 := (h1.below hB4 h1.lt).frozen 0; have y2 := (h2.below hB4 h2.lt).frozen 0)
      have hb4 := HB.out
      obtain ⟨h0, h1, h2⟩ := HH.out
      have hk : w.heap.size ≤ W.heap.size := hb4.size
      have t0 := ((h0.below hB4 h0.lt).set 0 (.slice none 0 0)).setOther (g := w.heap.size + 1) 0 (.int .i64 ((x.1 : Int) + 1)) (by omega)
      have t1 := ((h1.below hB4 h1.lt).setOther (g := w.heap.size) 0 (.slice none 0 0) (by omega)).set 0 (.int .i64 ((x.1 : Int) + 1))
      have t2 := ((h2.below hB4 h2.lt).setOther (g := w.heap.size) 0 (.slice none 0 0) (by omega)).setOther (g := w.heap.size + 1) 0 (.int .i64 ((x.1 : Int) + 1)) (by omega)
      have s0 := t0.setOther (g := w.heap.size + 1 + 1) 0 (.int .i64 13) (by omega)
      have s1 := t1.setOther (g := w.heap.size + 1 + 1) 0 (.int .i64 13) (by omega)
      have s2 := t2.set 0 (.int .i64 13)
      refine ⟨((((others_below hB4).trans (KeepsOthers.setCell _ _ _)).trans (KeepsOthers.setCell _ _ _)).trans (KeepsOthers.setCell _ _ _)).from _, ⟨rfl, pre, x, rfl, ⟨s0, ?_, s2⟩, H7.out, HOK.out⟩,
        (((hb4.trans (hB4.mono hk)).setCell (p := ⟨w.heap.size, 0, none⟩) (Nat.le_refl _) _).setCell (p := ⟨w.heap.size + 1, 0, none⟩) (Nat.le_succ _) _).setCell (p := ⟨w.heap.size + 1 + 1, 0, none⟩) (by show w.heap.size ≤ w.heap.size + 1 + 1; omega) _⟩
      have e1 : ((x.1 + 1 : Nat) : Int) = (x.1 : Int) + 1 := by omega
      rw [e1]
      exact s1
    · cases hws : wds (nb (lnAt s.data.toList x)) with
      | nil =>
        have hsp : ∀ Z, Calls Tryz.prog 31 #[.string ⟨(lnAt s.data.toList x).toArray⟩] Z fun e w' => ∃ B, e = .returned (.tuple #[.slice (some ⟨B, 0, none⟩) 0 0, .bool true]) ∧ Below Z.heap.size Z w' := fun Z => (hsplit Z).mono fun e w' hh => by
          obtain ⟨hc, hb⟩ := hh
          rcases hc with ⟨_, B, hc, _⟩ | ⟨hc, _⟩
          · rw [hws] at hc
            exact ⟨B, hc, hb⟩
          · rw [hok] at hc; cases hc
        have HOK := Lib.hid hok
        have HWS := Lib.hid (HX.out _ hws)
        have HH := Lib.hid (And.intro h0 (And.intro h1 (And.intro h2 (And.intro h3 h4))))
        clear hsplit hok hws h7 h6 h5 hB
        gi_wp2_with (refine ⟨trivial, ?_⟩; gi_at_call 31; refine (CallsIn.inRound l (callsIn_wide.2 (hsp W))).mono ?_; rintro e w4 ⟨B4, rfl, hB4⟩)
        have hb4 := HB.out
        refine ⟨(others_below hB4).from _, trivial, ⟨A, c, ls, ⟨h0.below hB4 h0.lt, h1.below hB4 h1.lt, h2.below hB4 h2.lt, h3.below hB4 h3.lt⟩, h4.below hB4 (Nat.le_refl _), H5.out.below hB4, ?_, ?_⟩, hb4.trans (hB4.mono hb4.size)⟩
        · rw [H6.out, HWS.out]; exact (if_pos trivial).symm
        · intro i hi
          rcases List.mem_append.1 hi with hi | hi
          · exact H7.out i hi
          · rw [List.mem_singleton] at hi
            subst hi
            exact HOK.out
      | cons w0 wr =>
        obtain ⟨ws, hwe⟩ : ∃ ws, w0 :: wr = ws := ⟨_, rfl⟩
        have hne : ws ≠ [] := by rw [← hwe]; exact List.cons_ne_nil _ _
        rw [hwe] at hws
        have hsp : ∀ Z, Calls Tryz.prog 31 #[.string ⟨(lnAt s.data.toList x).toArray⟩] Z fun e w' => ∃ B, e = .returned (.tuple #[.slice (some ⟨B, 0, none⟩) ws.length ws.length, .bool true]) ∧ WR w' B ws ∧ Z.heap.size ≤ B ∧ Below Z.heap.size Z w' := fun Z => (hsplit Z).mono fun e w' hh => by
          obtain ⟨hc, hb⟩ := hh
          rcases hc with ⟨_, B, hc, hB0, hown⟩ | ⟨hc, _⟩
          · rw [hws] at hc hown
            exact ⟨B, hc, WR.of_own hown, hB0, hb⟩
          · rw [hok] at hc; cases hc
        have HOK := Lib.hid hok
        have HWS := Lib.hid (HX.out _ hws)
        have HNE := Lib.hid hne
        have hlen0 : (0 : Int) < (ws.length : Int) := by
          have := List.length_pos_iff.2 hne
          omega
        obtain ⟨i0, hi0, hz0, hz1, hz2⟩ := info_parts infoLn
        have HB0 : Hid (w.heap.size ≤ W.heap.size) := Lib.hid hB.size
        clear hsplit hok hws h7 h6 h5 hB hwe hne HX
        gi_wp2_with (first
          | (refine ⟨trivial, ?_⟩; gi_at_call 31; refine (CallsIn.inRound l (callsIn_wide.2 (hsp W))).mono ?_; rintro e w4 ⟨B4, rfl, hWR, hBz, hB4⟩
             have q3 := (h3.below hB4 h3.lt).cell 0 _ rfl
             have own4 := h4.below hB4 (Nat.le_refl _))
          | (gi_at_builtin
             refine wpListIn_append_own _ rfl _ _ 56 rfl w.heap.size 87 i0 _ 2 32 Tryz.underlying56 hi0 hz0 hz1 hz2 rfl (by decide) _ _ _ rfl (World.ownsRow.alloc own4 _) ⟨w4.heap.size, 0, none⟩ 1 1 [.int .i64 ((x.1 : Int) + 1), .slice (some ⟨B4, 0, none⟩) ws.length ws.length] rfl rfl (cell_two_new' _ _ _ _) (by simp [Value.oneCell']) (by unfold maxLen; omega) (by omega) (by have := hB4.size; have := HB0.out; simp; omega) ?_
             intro v' w7 hown7 hgrow7 _
             obtain ⟨A7, c7, rfl⟩ := ownsRow_parts hown7
             have hnr := (OwnC.alloc own4 (.cells #[.int .i64 ((x.1 : Int) + 1), .slice (some ⟨B4, 0, none⟩) ws.length ws.length] 87)).not_row (h_old _ _ _ _ (h3.below hB4 h3.lt)) (by decide)
             have hlt4 : w.heap.size + 1 + 1 + 1 < (w4.alloc (.cells #[.int .i64 ((x.1 : Int) + 1), .slice (some ⟨B4, 0, none⟩) ws.length ws.length] 87)).heap.size := by have := (h3.below hB4 h3.lt).lt; simp; omega
             have r3 : RowC w7 (w.heap.size + 1 + 1 + 1) #[.slice A ls.length c] 56 := (hgrow7.block _ hlt4 hnr).trans (h_old _ _ _ _ (h3.below hB4 h3.lt))
             have q37 := r3.cell 0 _ rfl
             have y37 := r3.frozen 0))
        have hb4 := HB.out
        have hk : w.heap.size ≤ W.heap.size := hb4.size
        have hbl : Below w.heap.size w4 w7 := ((Below.refl _ w4).alloc (by have := hB4.size; omega) _).grown hgrow7 (by have := hB4.size; simp; omega) (fun k e => by have := (World.ownsRow.lt own4 k e).1; omega)
        have hne3 : ∀ b', (∃ cur T, w4.heap[b']? = some (Obj.cells cur T) ∧ T ≠ 87) → w7.heap[b']? = w4.heap[b']? := fun b' hh => by
          obtain ⟨cur, T, hc, hT⟩ := hh
          have hb' : b' < w4.heap.size := (Array.getElem?_eq_some_iff.1 hc).1
          exact (hgrow7.block b' (by simp; omega) ((OwnC.alloc own4 (.cells #[.int .i64 ((x.1 : Int) + 1), .slice (some ⟨B4, 0, none⟩) ws.length ws.length] 87)).not_row (h_old _ _ _ _ hc) hT)).trans (Below.heap_alloc _ _ _ hb')
        have z0 := (h0.below hB4 h0.lt)
        have z1 := (h1.below hB4 h1.lt)
        have z2 := (h2.below hB4 h2.lt)
        have r0 : RowC w7 _ _ _ := (hne3 _ ⟨_, _, z0, by decide⟩).trans z0
        have r1 : RowC w7 _ _ _ := (hne3 _ ⟨_, _, z1, by decide⟩).trans z1
        have r2 : RowC w7 _ _ _ := (hne3 _ ⟨_, _, z2, by decide⟩).trans z2
        have hlr : LRc (w7.setCell ⟨w.heap.size + 1 + 1 + 1, 0, none⟩ (.slice A7 (ls.length + 1) c7)) (ls ++ [⟨x.1 + 1, B4, ws.length, ws⟩]) := by
          have h4r : LRc w4 (ls ++ [⟨x.1 + 1, B4, ws.length, ws⟩]) := fun y hy => by
            rcases List.mem_append.1 hy with hy | hy
            · exact H5.out.below hB4 y hy
            · rw [List.mem_singleton] at hy
              subst hy
              exact ⟨HNE.out, rfl, hWR⟩
          have h7r : LRc w7 (ls ++ [⟨x.1 + 1, B4, ws.length, ws⟩]) := h4r.of fun b' _ ⟨cur, T, hc, hT⟩ => hne3 b' ⟨cur, T, hc, by rw [hT]; decide⟩
          refine h7r.of fun b' _ ⟨cur, T, hc, hT⟩ => Below.heap_setCell _ _ _ _ ?_
          intro e
          have e' : b' = w.heap.size + 1 + 1 + 1 := e
          subst e'
          rw [show w7.heap[w.heap.size + 1 + 1 + 1]? = _ from r3] at hc
          injection hc with hc
          injection hc with _ hc
          rw [hT] at hc
          exact absurd hc (by decide)
        have hown8 : OwnC (w7.setCell ⟨w.heap.size + 1 + 1 + 1, 0, none⟩ (.slice A7 (ls.length + 1) c7)) w.heap.size 87 2 A7 (ls ++ [(⟨x.1 + 1, B4, ws.length, ws⟩ : Ln)]).length c7 (lcell (ls ++ [⟨x.1 + 1, B4, ws.length, ws⟩])) := by
          have h7o : OwnC w7 w.heap.size 87 2 A7 (ls ++ [(⟨x.1 + 1, B4, ws.length, ws⟩ : Ln)]).length c7 (lcell (ls ++ [⟨x.1 + 1, B4, ws.length, ws⟩])) := by
            unfold OwnC
            rw [← lcells_snoc]
            rw [List.length_append]
            exact hown7
          exact ownC_setRow h7o r3 (by decide) 0 _
        refine ⟨((((others_below hB4).trans (KeepsOthers.alloc _ _)).trans (KeepsOthers.of_grownBy hgrow7 fun j o hj ho => (OwnC.alloc own4 _).own_cells j o hj ho)).trans (KeepsOthers.setCell _ _ _)).from _, trivial, ⟨A7, c7, ls ++ [⟨x.1 + 1, B4, ws.length, ws⟩], ⟨r0.setOther _ _ (by omega), r1.setOther _ _ (by omega), r2.setOther _ _ (by omega), ?_⟩, hown8, hlr, ?_, ?_⟩, ((hb4.trans (hB4.mono hk)).trans hbl).setCell (p := ⟨w.heap.size + 1 + 1 + 1, 0, none⟩) (by show w.heap.size ≤ w.heap.size + 1 + 1 + 1; omega) _⟩
        · rw [List.length_append]
          exact r3.set 0 _
        · rw [HWS.out, if_neg HNE.out, List.map_append, H6.out]
          rfl
        · intro i hi
          rcases List.mem_append.1 hi with hi | hi
          · exact H7.out i hi
          · rw [List.mem_singleton] at hi
            subst hi
            exact HOK.out
  case done =>
    rintro D ys W hD rfl ⟨⟨A, c, ls, ⟨h0, h1, h2, h3⟩, h4, h5, h6, h7⟩, hB⟩ hK
    have hlin : linesF s.data.toList = (accL s.data.toList (List.finRange (nl s.data.toList)), 0) := lines_ok _ fun i => h7 i (List.mem_finRange i)
    have q0 := h0.cell 0 _ rfl
    have q1 := h1.cell 0 _ rfl
    have q2 := h2.cell 0 _ rfl
    have q3 := h3.cell 0 _ rfl
    have y0 := h0.frozen 0
    have y1 := h1.frozen 0
    have y2 := h2.frozen 0
    have HH := Lib.hid (And.intro h0 (And.intro h1 (And.intro h2 (And.intro h4 (And.intro h5 (And.intro h6 (And.intro hB hlin)))))))
    clear h0 h1 h2 h3 h4 h5 h6 h7 hB hlin
    gi_wp2
    obtain ⟨h0, h1, h2, h4, h5, h6, hB, hlin⟩ := HH.out
    have hK1 := ((((KeepsOthers.setCell W ⟨w.heap.size, 0, none⟩ (.slice A ls.length c)).trans (KeepsOthers.setCell _ ⟨w.heap.size + 1, 0, none⟩ (.int .i64 0))).trans (KeepsOthers.setCell _ ⟨w.heap.size + 1 + 1, 0, none⟩ (.int .i64 0)))).same D _ hK rfl
    have t0 := ((h0.set 0 (.slice A ls.length c)).setOther (g := w.heap.size + 1) 0 (.int .i64 0) (by omega)).setOther (g := w.heap.size + 1 + 1) 0 (.int .i64 0) (by omega)
    have t1 := ((h1.setOther (g := w.heap.size) 0 (.slice A ls.length c) (by omega)).set 0 (.int .i64 0)).setOther (g := w.heap.size + 1 + 1) 0 (.int .i64 0) (by omega)
    have t2 := ((h2.setOther (g := w.heap.size) 0 (.slice A ls.length c) (by omega)).setOther (g := w.heap.size + 1) 0 (.int .i64 0) (by omega)).set 0 (.int .i64 0)
    have o1 := ownC_setRow h4 h0 (by decide) 0 (.slice A ls.length c)
    have o2 := ownC_setRow o1 (h1.setOther (g := w.heap.size) 0 (.slice A ls.length c) (by omega)) (by decide) 0 (.int .i64 0)
    have o3 := ownC_setRow o2 ((h2.setOther (g := w.heap.size) 0 (.slice A ls.length c) (by omega)).setOther (g := w.heap.size + 1) 0 (.int .i64 0) (by omega)) (by decide) 0 (.int .i64 0)
    have o4 := ownC_kept o3 (grownBy_putObj' _ D (.deferred none)) (fun r e => by cases e; exact ⟨_, hK1, rfl⟩)
    have l1 : LRc (((W.setCell ⟨w.heap.size, 0, none⟩ (.slice A ls.length c)).setCell ⟨w.heap.size + 1, 0, none⟩ (.int .i64 0)).setCell ⟨w.heap.size + 1 + 1, 0, none⟩ (.int .i64 0)) ls := h5.of fun b' _ hh => by
      obtain ⟨cur, T, hc, hT⟩ := hh
      have n0 : b' ≠ w.heap.size := fun e => by
        rw [e, show W.heap[w.heap.size]? = _ from h0] at hc
        injection hc with hc
        injection hc with _ hc
        rw [hT] at hc
        exact absurd hc (by decide)
      have n1 : b' ≠ w.heap.size + 1 := fun e => by
        rw [e, show W.heap[w.heap.size + 1]? = _ from h1] at hc
        injection hc with hc
        injection hc with _ hc
        rw [hT] at hc
        exact absurd hc (by decide)
      have n2 : b' ≠ w.heap.size + 1 + 1 := fun e => by
        rw [e, show W.heap[w.heap.size + 1 + 1]? = _ from h2] at hc
        injection hc with hc
        injection hc with _ hc
        rw [hT] at hc
        exact absurd hc (by decide)
      rw [Below.heap_setCell _ _ _ _ n2, Below.heap_setCell _ _ _ _ n1, Below.heap_setCell _ _ _ _ n0]
    have l2 := l1.kept (grownBy_putObj' _ D (.deferred none)) (fun r e => by cases e; exact ⟨_, hK1, rfl⟩)
    have k0 := rowC_kept t0 (grownBy_putObj' _ D (.deferred none)) (fun r e => by cases e; exact ⟨_, hK1, rfl⟩)
    have k1 := rowC_kept t1 (grownBy_putObj' _ D (.deferred none)) (fun r e => by cases e; exact ⟨_, hK1, rfl⟩)
    have k2 := rowC_kept t2 (grownBy_putObj' _ D (.deferred none)) (fun r e => by cases e; exact ⟨_, hK1, rfl⟩)
    refine ⟨by simp, .inl ⟨_, _, rfl, run_takeDeferred hK1, ?_⟩⟩
    refine ⟨_, results_cells3 Tryz.results19 _ _ ⟨w.heap.size, 0, none⟩ ⟨w.heap.size + 1, 0, none⟩ ⟨w.heap.size + 1 + 1, 0, none⟩ (.slice A ls.length c) (.int .i64 0) (.int .i64 0) rfl rfl rfl (Tryz.isAgg56 _) (Tryz.isAgg3 _) (Tryz.isAgg27 _) (k0.cell 0 _ rfl) (k1.cell 0 _ rfl) (k2.cell 0 _ rfl), .inl ⟨?_, A, c, ls, rfl, ?_, o4, l2⟩, ((((hB.setCell (p := ⟨w.heap.size, 0, none⟩) (Nat.le_refl _) _).setCell (p := ⟨w.heap.size + 1, 0, none⟩) (Nat.le_succ _) _).setCell (p := ⟨w.heap.size + 1 + 1, 0, none⟩) (by show w.heap.size ≤ w.heap.size + 1 + 1; omega) _)).trans (belowK_b (w := w) (Nat.le_refl _) _ D _ _ (by omega) hK1 rfl rfl)⟩
    · rw [hlin]
    · rw [hlin]; exact h6
  case stop =>
    rintro D c pre W hD hpre ⟨⟨rfl, pre', x, rfl, ⟨h0, h1, h2⟩, h3, h4⟩, hB⟩ hK
    have hlin : linesF s.data.toList = ([], x.1 + 1) := lines_bad _ x (fun i hi => h3 i (pre_last hpre i hi)) h4
    gi_wp2
    refine ⟨by simp, .inl ⟨_, _, rfl, run_takeDeferred hK, ?_⟩⟩
    have k0 := rowC_kept h0 (grownBy_putObj' _ D (.deferred none)) (fun r e => by cases e; exact ⟨_, hK, rfl⟩)
    have k1 := rowC_kept h1 (grownBy_putObj' _ D (.deferred none)) (fun r e => by cases e; exact ⟨_, hK, rfl⟩)
    have k2 := rowC_kept h2 (grownBy_putObj' _ D (.deferred none)) (fun r e => by cases e; exact ⟨_, hK, rfl⟩)
    refine ⟨_, results_cells3 Tryz.results19 _ _ ⟨w.heap.size, 0, none⟩ ⟨w.heap.size + 1, 0, none⟩ ⟨w.heap.size + 1 + 1, 0, none⟩ (.slice none 0 0) (.int .i64 ((x.1 + 1 : Nat) : Int)) (.int .i64 13) rfl rfl rfl (Tryz.isAgg56 _) (Tryz.isAgg3 _) (Tryz.isAgg27 _) (k0.cell 0 _ rfl) (k1.cell 0 _ rfl) (k2.cell 0 _ rfl), .inr ⟨?_, ?_⟩, hB.trans (belowK_b (w := w) (Nat.le_refl _) W D _ _ (by omega) hK rfl rfl)⟩
    · rw [hlin]; exact Nat.succ_ne_zero _
    · rw [hlin]
/-- The words of a line are few. -/
theorem scan_few : ∀ (lines : List (List UInt8)) (n N : Nat) (acc : List (Nat × List (List UInt8))), (∀ l ∈ lines, l.length ≤ N) → (∀ x ∈ acc, x.2.length ≤ N) → ∀ x ∈ (scan n lines acc).1, x.2.length ≤ N
  | [], n, N, acc, _, ha => ha
  | l :: r, n, N, acc, hl, ha => by
    show ∀ x ∈ (if (nb l).all okS = true then scan (n + 1) r (if wds (nb l) = [] then acc else acc ++ [(n, wds (nb l))]) else ([], n)).1, _
    split
    · refine scan_few r (n + 1) N _ (fun z hz => hl z (List.mem_cons_of_mem _ hz)) ?_
      split
      · exact ha
      · intro x hx
        rcases List.mem_append.1 hx with h | h
        · exact ha x h
        · rw [List.mem_singleton] at h
          subst h
          have h1 := wdF_length (nb l) [] []
          have h2 : (nb l).length ≤ l.length := by unfold nb; exact (List.takeWhile_sublist _).length_le
          have h3 := hl l (List.mem_cons_self ..)
          show (wds (nb l)).length ≤ N
          unfold wds
          simp only [List.length_nil] at h1
          omega
    · intro x hx
      cases hx
theorem lines_few (L : List UInt8) : ∀ x ∈ (linesF L).1, x.2.length ≤ L.length := scan_few _ _ _ _ (fun l hl => lns_mem L l hl) fun x hx => by cases hx
end Go.Proofs.YtccklmleaffgiaaGreatDoor

/-
  The document's lines of a text.
-/
namespace Go.Proofs.YtccklmleaffgiaaGreatDoor
open Go.RowKit

theorem LR.grown {w4 w5 : World} {ls : List Ln} {base n c : Nat} {E : TypeId} {A : Option Addr} {F : Nat → Value} {O : Obj} (h : LR w4 ls) (hown : OwnC w4 base E 2 A n c F) (hE : 9 ≠ E) (hg : (w4.alloc O).grownBy w5 (Value.slice A n c).ownBlock) : LR w5 ls :=
  h.of fun b hlt hh => by
    obtain ⟨cur, T, hc, hT⟩ := hh
    exact (hg.block b (by simp; omega) ((hown.alloc O).not_row (h_old _ _ _ _ hc) (by rw [hT]; exact hE))).trans (Below.heap_alloc _ _ _ hlt)
end Go.Proofs.YtccklmleaffgiaaGreatDoor

/-
  lex.Join: each line's words with one blank between, and a line's end.
-/
namespace Go.Proofs.YtccklmleaffgiaaGreatDoor
open Go.RowKit Go.Shelf

theorem ws_k (B b : Nat) (bs : List Value) (s : ByteArray) (w : World) (h : Lib.IsBuilderF 95 5 B b bs w) (hlen : bs.length + s.size ≤ 140737488355328) (hBw : B ≤ w.heap.size) :
    Calls Tryz.prog 34 #[.pointer (some ⟨b, 0, none⟩), .string s] w fun e w' => e = .returned (.tuple #[.int .i64 s.size, .nilIface]) ∧ (Lib.BuilderAtF 95 5 B b (.pointer (some ⟨b, 0, none⟩)) (bs ++ Lib.strCells s) w' ∧ Below B w w' ∧ Lib.OthersKept 5 (some b) w w') :=
  Any.Builder_WriteString_k { Tryz.lays156 with } Tryz.Builder_Extra_156 B b bs s w h hlen hBw

/-- A line's words with one blank between. -/
def joinW (ws : List (List UInt8)) : List UInt8 := Lib.join ws [32]
/-- Lines put together. -/
def joinF (l : List (List (List UInt8))) : List UInt8 := (l.map fun ws => joinW ws ++ [10]).flatten
theorem joinF_snoc (l : List (List (List UInt8))) (ws : List (List UInt8)) : joinF (l ++ [ws]) = joinF l ++ (joinW ws ++ [10]) := by
  unfold joinF
  rw [List.map_append, List.flatten_append]
  simp
theorem joinF_append (l m : List (List (List UInt8))) : joinF (l ++ m) = joinF l ++ joinF m := by
  unfold joinF
  rw [List.map_append, List.flatten_append]
theorem bf_below {T e : TypeId} {B b : Nat} {bs : List Value} {W W' : World} (h : Lib.IsBuilderF T e B b bs W) (hb : Below W.heap.size W W') : Lib.IsBuilderF T e B b bs W' := by
  have one : ∀ p, Lib.BuilderAtF T e B b p bs W → Lib.BuilderAtF T e B b p bs W' := fun p h => by
    have hlt := h.lt
    obtain ⟨h1, v, h2, h3, h4⟩ := h
    exact ⟨h1, v, (hb.block b hlt).trans h2, h3.kept (row := none) ⟨hb.os, hb.tape, hb.output, hb.size, fun k hk _ => hb.block k hk⟩ (Classical.em _), h4⟩
  exact h.elim (fun x => .inl (one _ x)) (fun x => .inr (one _ x))
theorem joinw_any (b c : Nat) (ws : List (List UInt8)) (w : World) (h : WR w b ws) (hc : ws.length ≤ c) (hlen : (joinW ws).length ≤ 140737488355328) (hn : ws.length ≤ 140737488355328) :
    Calls Tryz.prog 35 #[.slice (some ⟨b, 0, none⟩) ws.length c, .string ⟨#[32]⟩] w fun e w' => e = .returned (.string ⟨(joinW ws).toArray⟩) ∧ Below w.heap.size w w' := by
  have hx : (ws.map fun x => (⟨x.toArray⟩ : ByteArray)).map (·.data.toList) = ws := by
    rw [List.map_map]
    exact (List.map_congr_left fun x _ => rfl).trans (List.map_id _)
  have hj := Tryz.strings_Join b 0 c (ws.map fun x => ⟨x.toArray⟩) ⟨#[32]⟩ w (fun j x hx => by
    rw [List.getElem?_map] at hx
    cases hy : ws[j]? with
    | none => rw [hy] at hx; cases hx
    | some y =>
      rw [hy] at hx
      injection hx with hx
      rw [← hx, Nat.zero_add]
      exact h.cell hy) h.lt (by rw [List.length_map]; exact hn) (by rw [List.length_map]; exact hc) (by rw [hx]; exact hlen)
  rw [hx, List.length_map] at hj
  exact hj
theorem joinF_le (l : List (List (List UInt8))) (k : Nat) : (joinF (l.take k)).length ≤ (joinF l).length := by
  have h := joinF_append (l.take k) (l.drop k)
  rw [List.take_append_drop] at h
  rw [h, List.length_append]
  omega
theorem joinF_snoc_take (ls : List Ln) (k : Nat) (x : Ln) (hx : ls[k]? = some x) : joinF ((ls.map (·.ws)).take (k + 1)) = joinF ((ls.map (·.ws)).take k) ++ (joinW x.ws ++ [10]) := by
  rw [List.take_add_one, List.getElem?_map, hx]
  exact joinF_snoc _ _

set_option maxRecDepth 100000 in
set_option maxHeartbeats 4000000 in
theorem join_any (A : Option Addr) (c : Nat) (ls : List Ln) (w : World) (h1 : Cel w w.heap.size 2 A ls.length c (lcell ls)) (h2 : LR w ls) (hN : (joinF (ls.map (·.ws))).length ≤ 140737488355328) (hws : ∀ x ∈ ls, x.ws.length ≤ 140737488355328) :
    Calls Tryz.prog 21 #[.slice A ls.length c] w fun e w' => e = .returned (.string ⟨(joinF (ls.map (·.ws))).toArray⟩) ∧ Below w.heap.size w w' := by
  obtain ⟨n, hn⟩ : ∃ n, ls.length = n := ⟨_, rfl⟩
  obtain ⟨hc1, hm1⟩ := h1.le
  unfold maxLen at hm1
  rw [hn] at h1 hc1 ⊢
  have HC := Lib.hid (And.intro h1 (And.intro h2 (And.intro hN hws)))
  have HLN := Lib.hid hn
  clear h1 h2 hN hws hn
  go_enter Tryz.func21, Tryz.ntmps21
  go_wp2
  go_loopw [8] (fun i wr => ∃ k : Nat, k ≤ n ∧ i = .int .i64 k ∧ Lib.IsBuilderF 95 5 w.heap.size w.heap.size (Lib.byteCells (joinF ((ls.map (·.ws)).take k))) wr ∧ Below w.heap.size w wr) (fun i _ => n - (intOf i).toNat)
  case atStart => exact ⟨0, Nat.zero_le _, rfl, Lib.IsBuilderF.of (Lib.fresh_isBuilder 95 5 w), (Below.refl _ w).alloc (Nat.le_refl _) _⟩
  case round =>
    obtain ⟨k, hk, rfl, hI, hbw⟩ := hrel
    obtain ⟨h1, h2, hN, hws⟩ := HC.out
    by_cases hlt : k < n
    · obtain ⟨x, hx⟩ : ∃ x, ls[k]? = some x := ⟨_, List.getElem?_eq_getElem (by have := HLN.out; omega)⟩
      obtain ⟨b1, o1, rfl, hb1, hcc⟩ := h1.at_ (by omega)
      obtain ⟨hne, hcap, hwr⟩ := h2 x (List.mem_of_getElem? hx)
      have v1 : wr.cell? ⟨b1, o1 + k * 2, none⟩ = some (.int .i64 (x.num : Nat)) := by
        have := (hbw.cell (p := ⟨b1, o1 + k * 2, none⟩) hb1).trans (hcc (k * 2) (by omega))
        unfold lcell at this
        rw [show k * 2 / 2 = k by omega, hx, show k * 2 % 2 = 0 by omega] at this
        exact this
      have v2 : wr.cell? ⟨b1, o1 + k * 2 + 1, none⟩ = some (.slice (some ⟨x.b, 0, none⟩) x.ws.length x.cap) := by
        have := (hbw.cell (p := ⟨b1, o1 + (k * 2 + 1), none⟩) hb1).trans (hcc (k * 2 + 1) (by omega))
        unfold lcell at this
        rw [show (k * 2 + 1) / 2 = k by omega, hx, show (k * 2 + 1) % 2 = 1 by omega] at this
        exact this
      have hst := joinF_snoc_take ls k x hx
      have hle := joinF_le (ls.map (·.ws)) (k + 1)
      rw [hst] at hle
      simp only [List.length_append, List.length_cons, List.length_nil] at hle
      have hjl : (joinW x.ws).length ≤ 140737488355328 := by omega
      have hwl := hws x (List.mem_of_getElem? hx)
      have HJ : Hid (∀ Z, WR Z x.b x.ws → Calls Tryz.prog 35 #[.slice (some ⟨x.b, 0, none⟩) x.ws.length x.cap, .string ⟨#[32]⟩] Z fun e w' => e = .returned (.string ⟨(joinW x.ws).toArray⟩) ∧ Below Z.heap.size Z w') := Lib.hid fun Z hZ => joinw_any x.b x.cap x.ws Z hZ hcap hjl hwl
      have hwr1 : WR (wr.alloc (.cells #[.int .i64 (x.num : Nat), .slice (some ⟨x.b, 0, none⟩) x.ws.length x.cap] 87)) x.b x.ws := (hwr.below hbw hwr.lt).of_block (Below.heap_alloc _ _ _ (Nat.lt_of_lt_of_le hwr.lt hbw.size))
      have HST := Lib.hid hst
      have HI := Lib.hid hI
      have HBW := Lib.hid hbw
      generalize hJ : joinF ((ls.map (·.ws)).take k) = J at *
      generalize joinW x.ws = jw at *
      have i1 : (0 : Int) ≤ (k : Int) := by omega
      have i2 : (k : Int) < (n : Int) := by omega
      have i3 : IntKind.i64.wrap ((k : Int) + 1) = (k : Int) + 1 := IntWalk.i64_in _ (by omega)
      clear h1 h2 hN hws hcc hst hI hbw hJ hwr hne
      have hsz := HBW.out.size
      have hNb := HC.out.2.2.1
      go_wp2_with (go_at_call 35; refine (HJ.out _ hwr1).mono ?_; rintro e w4 ⟨rfl, hB4⟩)
      have I4 := bf_below (HI.out.alloc (.cells #[.int .i64 (x.num : Nat), .slice (some ⟨x.b, 0, none⟩) x.ws.length x.cap] 87)) hB4
      have b4 : Below w.heap.size w w4 := (HBW.out.alloc hsz _).trans (hB4.mono (by simp; omega))
      refine (ws_k w.heap.size w.heap.size _ ⟨jw.toArray⟩ w4 I4 (by rw [Lib.byteCells_length]; show J.length + jw.toArray.size ≤ _; rw [List.size_toArray]; omega) b4.size).mono ?_
      rintro e w5 ⟨rfl, hA5, hB5, _⟩
      have I5 : Lib.IsBuilderF 95 5 w.heap.size w.heap.size (Lib.byteCells (J ++ jw)) w5 := by
        rw [Lib.byteCells_append]
        exact Or.inr hA5
      have b5 := b4.trans hB5
      clear hA5 I4
      go_wp2_with fail
      refine (ws_k w.heap.size w.heap.size _ ⟨#[10]⟩ w5 I5 (by rw [Lib.byteCells_length, List.length_append]; show _ + 1 ≤ _; omega) b5.size).mono ?_
      rintro e w6 ⟨rfl, hA6, hB6, _⟩
      have I6 : Lib.IsBuilderF 95 5 w.heap.size w.heap.size (Lib.byteCells (J ++ (jw ++ [10]))) w6 := by
        rw [← List.append_assoc, Lib.byteCells_append]
        exact Or.inr hA6
      rw [← HST.out] at I6
      have b6 := b5.trans hB6
      have HI6 := Lib.hid (And.intro I6 b6)
      clear I6 b6 hA6
      go_wp2
      exact ⟨⟨k + 1, hlt, by go_num, HI6.out.1, HI6.out.2⟩, by simp [intOf]; omega⟩
    · obtain rfl : k = n := by omega
      have i2 : ¬ (k : Int) < (k : Int) := by omega
      have HT : Hid ((ls.map (·.ws)).take k = ls.map (·.ws)) := Lib.hid (List.take_of_length_le (by rw [List.length_map, HLN.out]; exact Nat.le_refl _))
      rw [HT.out] at hI
      have HI := Lib.hid hI
      have HBW := Lib.hid hbw
      clear h1 h2 hN hws hI hbw
      go_wp2_with (go_at_call 36; refine (Tryz.Builder_String_any_k w.heap.size w.heap.size _ _ HI.out HBW.out.size).mono ?_; rintro e w3 ⟨rfl, _, hB3, _⟩)
      go_ret
      exact ⟨rfl, HBW.out.trans hB3⟩
end Go.Proofs.YtccklmleaffgiaaGreatDoor

/-
  Lines of words by plain functions, more: what joined lines are; a text with a line more; a text with notes and blanks. Nothing here speaks of a program.
-/
namespace Go.Proofs.YtccklmleaffgiaaGreatDoor
open Go.RowKit

/-! ### lines put together -/
/-- A word: signs that may be, no blank, no note. -/
def GoodW (w : List UInt8) : Prop := w ≠ [] ∧ ∀ c ∈ w, okS c = true ∧ blk c = false ∧ c ≠ 35
theorem wdF_word : ∀ (x r w : List UInt8) (out : List (List UInt8)), (∀ c ∈ x, blk c = false) → wdF (x ++ r) w out = wdF r (w ++ x) out
  | [], r, w, out, _ => by rw [List.nil_append, List.append_nil]
  | c :: t, r, w, out, h => by
    show (if blk c = true then _ else wdF (t ++ r) (w ++ [c]) out) = _
    rw [if_neg (by rw [h c List.mem_cons_self]; decide), wdF_word t r (w ++ [c]) out (fun d hd => h d (List.mem_cons_of_mem _ hd)), List.append_assoc]
    rfl
theorem wds_tail : ∀ (ws : List (List UInt8)) (w : List UInt8) (out : List (List UInt8)), w ≠ [] → (∀ x ∈ ws, GoodW x) → wdF (Lib.joinTail [32] ws) w out = out ++ w :: ws
  | [], w, out, hw, _ => psh_ne out hw
  | x :: r, w, out, hw, h => by
    have hx := h x List.mem_cons_self
    have e : Lib.joinTail [32] (x :: r) = 32 :: (x ++ Lib.joinTail [32] r) := by simp [Lib.joinTail]
    rw [e]
    show wdF (x ++ Lib.joinTail [32] r) [] (psh out w) = _
    rw [wdF_word x _ _ _ (fun c hc => (hx.2 c hc).2.1), List.nil_append, wds_tail r x _ hx.1 (fun y hy => h y (List.mem_cons_of_mem _ hy)), psh_ne out hw, List.append_assoc]
    rfl
theorem wds_join (ws : List (List UInt8)) (h : ∀ x ∈ ws, GoodW x) : wds (joinW ws) = ws := by
  cases ws with
  | nil => rfl
  | cons x r =>
    have hx := h x List.mem_cons_self
    unfold wds joinW
    rw [Lib.join_cons, wdF_word x _ _ _ (fun c hc => (hx.2 c hc).2.1), List.nil_append, wds_tail r x [] hx.1 (fun y hy => h y (List.mem_cons_of_mem _ hy))]
    rfl
theorem mem_tail {c : UInt8} : ∀ {r : List (List UInt8)}, c ∈ Lib.joinTail [32] r → c = 32 ∨ ∃ x ∈ r, c ∈ x
  | [], h => by cases h
  | x :: r, h => by
    have e : Lib.joinTail [32] (x :: r) = 32 :: (x ++ Lib.joinTail [32] r) := by simp [Lib.joinTail]
    rw [e] at h
    rcases List.mem_cons.1 h with h | h
    · exact .inl h
    · rcases List.mem_append.1 h with h | h
      · exact .inr ⟨x, List.mem_cons_self, h⟩
      · rcases mem_tail h with h | ⟨y, hy, hc⟩
        · exact .inl h
        · exact .inr ⟨y, List.mem_cons_of_mem _ hy, hc⟩
theorem joinW_sign {ws : List (List UInt8)} (h : ∀ x ∈ ws, GoodW x) : ∀ c ∈ joinW ws, okS c = true ∧ c ≠ 35 ∧ c ≠ 10 := by
  have word : ∀ x ∈ ws, ∀ c ∈ x, okS c = true ∧ c ≠ 35 ∧ c ≠ 10 := fun x hx c hc => by
    obtain ⟨h1, h2, h3⟩ := (h x hx).2 c hc
    refine ⟨h1, h3, fun e => ?_⟩
    subst e
    exact absurd h1 (by decide)
  intro c hc
  cases ws with
  | nil => cases hc
  | cons x r =>
    unfold joinW at hc
    rw [Lib.join_cons] at hc
    rcases List.mem_append.1 hc with hc | hc
    · exact word x List.mem_cons_self c hc
    · rcases mem_tail hc with hc | ⟨y, hy, hc⟩
      · subst hc
        exact ⟨by decide, by decide, by decide⟩
      · exact word y (List.mem_cons_of_mem _ hy) c hc
theorem nb_all {l : List UInt8} (h : ∀ c ∈ l, c ≠ 35) : nb l = l := by
  induction l with
  | nil => rfl
  | cons c t ih => rw [nb_cons c t (h c List.mem_cons_self), ih fun d hd => h d (List.mem_cons_of_mem _ hd)]
theorem lns_join : ∀ (l : List (List (List UInt8))), (∀ ws ∈ l, ∀ x ∈ ws, GoodW x) → lns (joinF l) = l.map joinW ++ [[]]
  | [], _ => rfl
  | ws :: r, h => by
    have e : joinF (ws :: r) = joinW ws ++ 10 :: joinF r := by simp [joinF]
    rw [e, lns_some _ _ (fun c hc => (joinW_sign (h ws List.mem_cons_self) c hc).2.2), lns_join r fun y hy => h y (List.mem_cons_of_mem _ hy)]
    rfl
/-- Lines with numbers from k on. -/
def numF : Nat → List (List (List UInt8)) → List (Nat × List (List UInt8))
  | _, [] => []
  | k, ws :: r => (k, ws) :: numF (k + 1) r
theorem numF_at : ∀ (l : List (List (List UInt8))) (k i : Nat), (numF k l)[i]? = l[i]?.map fun ws => (k + i, ws)
  | [], _, _ => rfl
  | ws :: r, k, 0 => rfl
  | ws :: r, k, i + 1 => by
    show (numF (k + 1) r)[i]? = r[i]?.map _
    rw [numF_at r (k + 1) i]
    congr 1
    funext ws
    rw [show k + 1 + i = k + (i + 1) by omega]
theorem scan_join : ∀ (l : List (List (List UInt8))) (k : Nat) (acc : List (Nat × List (List UInt8))), (∀ ws ∈ l, ws ≠ [] ∧ ∀ x ∈ ws, GoodW x) → scan k (l.map joinW ++ [[]]) acc = (acc ++ numF k l, 0)
  | [], k, acc, _ => by
    show (acc, 0) = _
    simp [numF]
  | ws :: r, k, acc, h => by
    obtain ⟨h1, h2⟩ := h ws List.mem_cons_self
    have hs := joinW_sign h2
    have hn : nb (joinW ws) = joinW ws := nb_all fun c hc => (hs c hc).2.1
    show (if (nb (joinW ws)).all okS = true then scan (k + 1) (r.map joinW ++ [[]]) (if wds (nb (joinW ws)) = [] then acc else acc ++ [(k, wds (nb (joinW ws)))]) else ([], k)) = _
    rw [hn, if_pos (List.all_eq_true.2 fun c hc => (hs c hc).1), wds_join ws h2, if_neg h1, scan_join r (k + 1) _ fun y hy => h y (List.mem_cons_of_mem _ hy), List.append_assoc]
    rfl
theorem lines_join (l : List (List (List UInt8))) (h : ∀ ws ∈ l, ws ≠ [] ∧ ∀ x ∈ ws, GoodW x) : linesF (joinF l) = (numF 1 l, 0) := by
  unfold linesF
  rw [lns_join l fun ws hws => (h ws hws).2, scan_join l 1 [] h]
  rfl
theorem joinT_len (r : List (List UInt8)) : (Lib.joinTail [32] r).length = (r.map fun x => x.length + 1).sum := by
  induction r with
  | nil => rfl
  | cons x r ih =>
    have e : Lib.joinTail [32] (x :: r) = 32 :: (x ++ Lib.joinTail [32] r) := by simp [Lib.joinTail]
    rw [e, List.length_cons, List.length_append, ih, List.map_cons, List.sum_cons]
    omega
theorem joinW_len (ws : List (List UInt8)) : (joinW ws).length ≤ (ws.map fun x => x.length + 1).sum := by
  cases ws with
  | nil => exact Nat.le_refl _
  | cons x r =>
    unfold joinW
    rw [Lib.join_cons, List.length_append, joinT_len, List.map_cons, List.sum_cons]
    omega
end Go.Proofs.YtccklmleaffgiaaGreatDoor

/-
  What Lines tells of a text that is right, and of another one; a text with a line more behind it.
-/
namespace Go.Proofs.YtccklmleaffgiaaGreatDoor
open Go.RowKit

theorem tell_ws (ls : List Ln) : ls.map (·.ws) = (ls.map Ln.tell).map (·.2) := by
  rw [List.map_map]; rfl
theorem scan_len : ∀ (lines : List (List UInt8)) (n : Nat) (acc : List (Nat × List (List UInt8))), (scan n lines acc).1.length ≤ acc.length + lines.length
  | [], _, acc => Nat.le_refl _
  | l :: r, n, acc => by
    show (if (nb l).all okS = true then scan (n + 1) r (if wds (nb l) = [] then acc else acc ++ [(n, wds (nb l))]) else ([], n)).1.length ≤ _
    split
    · have h1 := scan_len r (n + 1) (if wds (nb l) = [] then acc else acc ++ [(n, wds (nb l))])
      have h2 : (if wds (nb l) = [] then acc else acc ++ [(n, wds (nb l))]).length ≤ acc.length + 1 := by
        split
        · omega
        · simp
      simp only [List.length_cons]
      omega
    · exact Nat.zero_le _
theorem lines_okL_len {L : List UInt8} {ls : List Ln} (h : ls.map Ln.tell = (linesF L).1) : ls.length ≤ L.length + 1 := by
  have h1 := scan_len (lns L) 1 []
  have h2 := (lns_length L).2
  have h3 := congrArg List.length h
  rw [List.length_map] at h3
  have h4 : scan 1 (lns L) [] = linesF L := rfl
  rw [h4] at h1
  simp only [List.length_nil] at h1
  omega
theorem numF_ws (l : List (List (List UInt8))) (k : Nat) : (numF k l).map (·.2) = l := by
  apply List.ext_getElem?
  intro i
  rw [List.getElem?_map, numF_at]
  cases l[i]? <;> rfl

theorem scan_one (k : Nat) (m : List UInt8) (acc : List (Nat × List (List UInt8))) : scan k [m] acc = if (nb m).all okS = true then (if wds (nb m) = [] then acc else acc ++ [(k, wds (nb m))], 0) else ([], k) := rfl
end Go.Proofs.YtccklmleaffgiaaGreatDoor
