/-
  The document's words of a line.
-/
import Derived.Test.YtcmdmnnkbliggaaGreatDoorP17
import Derived.Test.YtcmdmnnkbliggaaGreatDoorProg
import Derived.Shelf.Strings.BuilderK
import Derived.BigQuiet
import Derived.Shelf.Strings.Builder1
import Derived.Shelf.Strings.Builder2
import Derived.Shelf.Strings.OnBuilder
import Derived.Shelf.Strings.Trim
import Derived.Shelf.Small.Utf8
import Derived.Shelf.Small.Bits
import Derived.Shelf.Small.Strs
import Derived.Shelf.Small.Wraps
import Derived.Shelf.Strings.BuilderF
import Derived.Shelf.Strconv.Itoa0
import Derived.Shelf.Strconv.Itoa1
import Derived.Shelf.LaysM
import Derived.Shelf.Strconv.Itoa2
import Derived.Shelf.Strconv.Itoa3
import Derived.Ground.MpProg
import Derived.Shelf.Pu.ParseUintPublic10
import Derived.Shelf.Pu.ErrVarParseUint
import Derived.Shelf.Strings.Search1
import Derived.Shelf.Strings.Search2
import Derived.Shelf.Strings.Search3
import Derived.Shelf.Strings.Cut
import Derived.Shelf.Strings.Shaped
import Derived.Shelf.Strings.Prefix
import Derived.Shelf.Strings.Runes
import Derived.Shelf.Strings.AsciiSet
import Derived.Shelf.Unicode.DecodeSlow
import Derived.Shelf.Unicode.DecodeAny
import Derived.Shelf.Unicode.DecodeLast
import Derived.Shelf.Strings.FieldsFuncAny
import Derived.Shelf.Strings.FieldsFuncGrows
import Derived.Ground.SlgmProg
import Derived.Shelf.SortM.Plain
import Derived.Shelf.SortM.SortNone
namespace Go.Proofs.YtcmdmnnkbliggaaGreatDoor
open Go.RowKit

theorem wdF_length : ∀ (l w : List UInt8) (out : List (List UInt8)), (wdF l w out).length ≤ out.length + w.length + l.length
  | [], w, out => by
    show (psh out w).length ≤ _
    cases w with
    | nil => exact Nat.le_add_right _ _
    | cons c t => show (out ++ [c :: t]).length ≤ _; simp
  | c :: t, w, out => by
    show (if blk c = true then wdF t [] (psh out w) else wdF t (w ++ [c]) out).length ≤ _
    split
    · have h1 := wdF_length t [] (psh out w)
      have h2 : (psh out w).length ≤ out.length + w.length := by
        cases w with
        | nil => exact Nat.le_add_right _ _
        | cons c t => show (out ++ [c :: t]).length ≤ _; simp
      simp only [List.length_nil, List.length_cons] at h1 ⊢
      omega
    · have h1 := wdF_length t (w ++ [c]) out
      simp only [List.length_append, List.length_cons, List.length_nil] at h1 ⊢
      omega
end Go.Proofs.YtcmdmnnkbliggaaGreatDoor

/-
  The document's lines of a text.
-/
namespace Go.Proofs.YtcmdmnnkbliggaaGreatDoor
open Go.RowKit

theorem LR.grown {w4 w5 : World} {ls : List Ln} {base n c : Nat} {E : TypeId} {A : Option Addr} {F : Nat → Value} {O : Obj} (h : LR w4 ls) (hown : OwnC w4 base E 2 A n c F) (hE : 9 ≠ E) (hg : (w4.alloc O).grownBy w5 (Value.slice A n c).ownBlock) : LR w5 ls :=
  h.of fun b hlt hh => by
    obtain ⟨cur, T, hc, hT⟩ := hh
    exact (hg.block b (by simp; omega) ((hown.alloc O).not_row (h_old _ _ _ _ hc) (by rw [hT]; exact hE))).trans (Below.heap_alloc _ _ _ hlt)
end Go.Proofs.YtcmdmnnkbliggaaGreatDoor

/-
  Lines of words by plain functions, more: what joined lines are; a text with a line more; a text with notes and blanks. Nothing here speaks of a program.
-/
namespace Go.Proofs.YtcmdmnnkbliggaaGreatDoor
open Go.RowKit

/-! ### lines put together -/
/-- Lines with numbers from k on. -/
def numF : Nat → List (List (List UInt8)) → List (Nat × List (List UInt8))
  | _, [] => []
  | k, ws :: r => (k, ws) :: numF (k + 1) r
theorem numF_at : ∀ (l : List (List (List UInt8))) (k i : Nat), (numF k l)[i]? = l[i]?.map fun ws => (k + i, ws)
  | [], _, _ => rfl
  | ws :: r, k, 0 => rfl
  | ws :: r, k, i + 1 => by
    show (numF (k + 1) r)[i]? = r[i]?.map _
    rw [numF_at r (k + 1) i]
    congr 1
    funext ws
    rw [show k + 1 + i = k + (i + 1) by omega]
end Go.Proofs.YtcmdmnnkbliggaaGreatDoor

/-
  lex.Lines once more: the words' slices have no room behind them.
-/
namespace Go.Proofs.YtcmdmnnkbliggaaGreatDoor
open Go.RowKit Go.Shelf
attribute [local go_sem] Oper.semAt_some

def LRc (w : World) (ls : List Ln) : Prop := ∀ x ∈ ls, x.ws ≠ [] ∧ x.ws.length = x.cap ∧ WR w x.b x.ws
theorem LRc.of {w w' : World} {ls : List Ln} (h : LRc w ls) (hb : ∀ b, b < w.heap.size → (∃ cur T, w.heap[b]? = some (.cells cur T) ∧ T = 9) → w'.heap[b]? = w.heap[b]?) : LRc w' ls := fun x hx => by
  obtain ⟨h1, h3, h2⟩ := h x hx
  refine ⟨h1, h3, h2.of_block (hb _ h2.lt ?_)⟩
  obtain ⟨cur, hc, _⟩ := h2
  exact ⟨cur, _, hc, rfl⟩
theorem LRc.below {w w' : World} {ls : List Ln} (h : LRc w ls) (hb : Below w.heap.size w w') : LRc w' ls := h.of fun b hlt _ => hb.block b hlt
theorem LRc.kept {W W' : World} {row : Option Nat} {ls : List Ln} (h : LRc W ls) (hg : W.grownBy W' row) (hrow : ∀ r, row = some r → ∃ o : Obj, W.heap[r]? = some o ∧ o.isCells = false) : LRc W' ls :=
  h.of fun _ _ ⟨_, _, hc, _⟩ => grownBy_keeps_cells hg hrow hc rfl
def LinesC (w : World) (L : List UInt8) (e : Ending) (w' : World) : Prop :=
  (((linesF L).2 = 0 ∧ ∃ A c ls, e = .returned (.tuple #[.slice A ls.length c, .int .i64 0, .int .i64 0]) ∧ ls.map Ln.tell = (linesF L).1 ∧ OwnC w' w.heap.size 158 2 A ls.length c (lcell ls) ∧ LRc w' ls) ∨
    ((linesF L).2 ≠ 0 ∧ e = .returned (.tuple #[.slice none 0 0, .int .i64 ((linesF L).2 : Nat), .int .i64 13]))) ∧ Below w.heap.size w w'

/-- The variables of a call of Lines, and the lines so far. -/
def LnIc (w : World) (L : List UInt8) (pre : List (Fin (nl L))) (W : World) : Prop :=
  ∃ A c ls, (RowC W w.heap.size #[.slice none 0 0] 96 ∧ RowC W (w.heap.size + 1) #[.int .i64 0] 3 ∧ RowC W (w.heap.size + 1 + 1) #[.int .i64 0] 27 ∧ RowC W (w.heap.size + 1 + 1 + 1) #[.slice A ls.length c] 96) ∧
    OwnC W w.heap.size 158 2 A ls.length c (lcell ls) ∧ LRc W ls ∧ ls.map Ln.tell = accL L pre ∧ ∀ i ∈ pre, (nb (lnAt L i)).all okS = true
set_option maxRecDepth 100000 in
set_option maxHeartbeats 8000000 in
theorem lines_cap (s : ByteArray) (hs : s.size ≤ 65536) (w : World) : Calls Tryz.prog 48 #[.string s] w (LinesC w s.data.toList) := by
  have i1 : ¬ (65536 : Int) < (s.size : Int) := by omega
  have HS := Lib.hid hs
  refine (callsIn_wide (n := 8)).1 ?_
  have hro : (Fence.wide).round = none := rfl
  refine callsIn_of_wp_marks Tryz.func48 rfl trivial ?_ hro
  simp only [Tryz.ntmps48, List.size_toArray, List.length_cons, List.length_nil, Nat.reduceAdd, Nat.reduceSub, Array.replicate_succ, Array.replicate_zero, List.push_toArray, List.append_toArray, List.nil_append, List.cons_append]
  gi_wp2_with (refine ⟨trivial, ?_⟩; gi_at_call 86; refine (callsIn_wide.2 (each_any _ _)).mono ?_; rintro e w2 ⟨rfl, rfl⟩)
  have k0 : RowC (((((w.alloc (.cells #[.slice none 0 0] 96)).alloc (.cells #[.int .i64 0] 3)).alloc (.cells #[.int .i64 0] 27)).alloc (.cells #[.slice none 0 0] 96)).alloc (.cells #[.string s] 9)) w.heap.size #[.slice none 0 0] 96 := h_old _ _ _ _ (h_old _ _ _ _ (h_old _ _ _ _ (h_old _ _ _ _ (h_last _ _ _ rfl))))
  have k1 : RowC (((((w.alloc (.cells #[.slice none 0 0] 96)).alloc (.cells #[.int .i64 0] 3)).alloc (.cells #[.int .i64 0] 27)).alloc (.cells #[.slice none 0 0] 96)).alloc (.cells #[.string s] 9)) (w.heap.size + 1) #[.int .i64 0] 3 := h_old _ _ _ _ (h_old _ _ _ _ (h_old _ _ _ _ (h_last _ _ _ (by simp))))
  have k2 : RowC (((((w.alloc (.cells #[.slice none 0 0] 96)).alloc (.cells #[.int .i64 0] 3)).alloc (.cells #[.int .i64 0] 27)).alloc (.cells #[.slice none 0 0] 96)).alloc (.cells #[.string s] 9)) (w.heap.size + 1 + 1) #[.int .i64 0] 27 := h_old _ _ _ _ (h_old _ _ _ _ (h_last _ _ _ (by simp)))
  have k3 : RowC (((((w.alloc (.cells #[.slice none 0 0] 96)).alloc (.cells #[.int .i64 0] 3)).alloc (.cells #[.int .i64 0] 27)).alloc (.cells #[.slice none 0 0] 96)).alloc (.cells #[.string s] 9)) (w.heap.size + 1 + 1 + 1) #[.slice none 0 0] 96 := h_old _ _ _ _ (h_last _ _ _ (by simp))
  have k4 : RowC (((((w.alloc (.cells #[.slice none 0 0] 96)).alloc (.cells #[.int .i64 0] 3)).alloc (.cells #[.int .i64 0] 27)).alloc (.cells #[.slice none 0 0] 96)).alloc (.cells #[.string s] 9)) (w.heap.size + 1 + 1 + 1 + 1) #[.string s] 9 := h_last _ _ _ (by simp)
  have hsz : (((((w.alloc (.cells #[.slice none 0 0] 96)).alloc (.cells #[.int .i64 0] 3)).alloc (.cells #[.int .i64 0] 27)).alloc (.cells #[.slice none 0 0] 96)).alloc (.cells #[.string s] 9)).heap.size = w.heap.size + 5 := by simp
  have hbw : Below w.heap.size w (((((w.alloc (.cells #[.slice none 0 0] 96)).alloc (.cells #[.int .i64 0] 3)).alloc (.cells #[.int .i64 0] 27)).alloc (.cells #[.slice none 0 0] 96)).alloc (.cells #[.string s] 9)) := (((((Below.refl _ w).alloc (Nat.le_refl _) _).alloc (by simp) _).alloc (by simp; omega) _).alloc (by simp; omega) _).alloc (by simp; omega) _
  generalize (((((w.alloc (.cells #[.slice none 0 0] 96)).alloc (.cells #[.int .i64 0] 3)).alloc (.cells #[.int .i64 0] 27)).alloc (.cells #[.slice none 0 0] 96)).alloc (.cells #[.string s] 9)) = V0 at *
  refine wpIn_rangeFunc_ownG hro (by decide) (gf := 136) (lb := #[.pointer (some ⟨w.heap.size + 1 + 1 + 1 + 1, 0, none⟩)]) rfl trivial (enters_of Tryz.func136 (by kernel_rfl) rfl)
    (each_stops s (by omega) (8 - 1) (by decide) (w.heap.size + 1 + 1 + 1 + 1) V0 (by omega) (k4.cell 0 _ rfl)) (fun _ _ => trivial) (fun _ _ _ _ _ _ _ _ => trivial) (Below.refl _ _) (fun _ => rfl)
    (fun pre W => LnIc w s.data.toList pre W ∧ Below w.heap.size w W) (fun c pre W => (c = .ret ∧ LnX w s.data.toList pre W) ∧ Below w.heap.size w W)
    (OwnFrom.and (Own.from (fun pre A B row hs hg hr => by
      obtain ⟨A', c, ls, ⟨h0, h1, h2, h3⟩, h4, h5, h6, h7⟩ := hs
      exact ⟨A', c, ls, ⟨rowC_kept h0 hg hr, rowC_kept h1 hg hr, rowC_kept h2 hg hr, rowC_kept h3 hg hr⟩, ownC_kept h4 hg hr, h5.kept hg hr, h6, h7⟩) _) (ownFrom_below (Nat.le_refl _) (by omega)))
    (fun cc => OwnFrom.and (Own.from (fun pre A B row hs hg hr => by
      obtain ⟨hcc, pre', x, h, ⟨h0, h1, h2⟩, h3, h4⟩ := hs
      exact ⟨hcc, pre', x, h, ⟨rowC_kept h0 hg hr, rowC_kept h1 hg hr, rowC_kept h2 hg hr⟩, h3, h4⟩) _) (ownFrom_below (Nat.le_refl _) (by omega)))
    ⟨⟨none, 0, [], ⟨k0, k1, k2, k3⟩, OwnC.nil_, fun x hx => (by cases hx), rfl, fun i hi => (by cases hi)⟩, hbw⟩
    (fun x => { tmps := #[.string s, undef, .pointer (some ⟨w.heap.size, 0, none⟩), .pointer (some ⟨w.heap.size + 1, 0, none⟩), .pointer (some ⟨w.heap.size + 1 + 1, 0, none⟩), .pointer (some ⟨w.heap.size + 1 + 1 + 1, 0, none⟩), .int .i64 ((x.1 : Int) + 1), .string ⟨(lnAt s.data.toList x).toArray⟩, undef, undef, .string s, .int .i64 s.size, .bool false, .string s, .func (.func 136) #[] #[.pointer (some ⟨w.heap.size + 1 + 1 + 1 + 1, 0, none⟩)], .int .i64 ((x.1 : Int) + 1), .string ⟨(lnAt s.data.toList x).toArray⟩, undef, undef, undef, undef, undef, undef, undef, undef, undef, undef, undef, undef, undef, undef, undef, undef, undef, undef], defers := [] }) ?assign ?body ?done ?stop
  case assign =>
    intro l x W K hK
    gi_wp2
    exact hK
  case body =>
    rintro l pre x W ⟨⟨A, c, ls, ⟨h0, h1, h2, h3⟩, h4, h5, h6, h7⟩, hB⟩ hlen
    have hls : ls.length ≤ pre.length := by
      have e := congrArg List.length h6
      have := accL_length s.data.toList pre
      rw [List.length_map] at e
      omega
    have hnl : nl s.data.toList ≤ s.data.toList.length + 1 := (lns_length s.data.toList).2
    have hsl : s.data.toList.length = s.size := Array.length_toList
    have hll := lns_mem s.data.toList (lnAt s.data.toList x) (List.getElem_mem _)
    have hsplit := fun Z => split_any ⟨(lnAt s.data.toList x).toArray⟩ (by show (lnAt s.data.toList x).toArray.size ≤ _; rw [List.size_toArray]; omega) Z
    have hdata : (⟨(lnAt s.data.toList x).toArray⟩ : ByteArray).data.toList = lnAt s.data.toList x := rfl
    rw [hdata] at hsplit
    have hwn := wds (nb (lnAt s.data.toList x))
    have H7 := Lib.hid h7
    have H6 := Lib.hid h6
    have H5 := Lib.hid h5
    have HB := Lib.hid hB
    have HX : Hid (∀ (ws : List (List UInt8)), wds (nb (lnAt s.data.toList x)) = ws → accL s.data.toList (pre ++ [x]) = if ws = [] then accL s.data.toList pre else accL s.data.toList pre ++ [(x.1 + 1, ws)]) := Lib.hid fun ws hws => by rw [accL_snoc, hws]
    have f0 := h0.cell 0 _ rfl
    have g0 := h0.frozen 0
    cases hok : (nb (lnAt s.data.toList x)).all okS
    · -- the first line that is wrong
      have HOK := Lib.hid hok
      have hsp : ∀ Z, Calls Tryz.prog 87 #[.string ⟨(lnAt s.data.toList x).toArray⟩] Z fun e w' => e = .returned (.tuple #[.slice none 0 0, .bool false]) ∧ Below Z.heap.size Z w' := fun Z => (hsplit Z).mono fun e w' hh => by
        obtain ⟨hc, hb⟩ := hh
        rcases hc with ⟨hc, _⟩ | ⟨_, hc⟩
        · rw [hok] at hc; cases hc
        · exact ⟨hc, hb⟩
      clear hsplit hok h7 h6 h5 hB
      have HH := Lib.hid (And.intro h0 (And.intro h1 h2))
      gi_wp2_with (refine ⟨trivial, ?_⟩; gi_at_call 87; refine (CallsIn.inRound l (callsIn_wide.2 (hsp W))).mono ?_; rintro e w4 ⟨rfl, hB4⟩; have q0 := (h0.below hB4 h0.lt).cell 0 _ rfl; have q1 := (h1.below hB4 h1.lt).cell 0 _ rfl; have q2 := (h2.below hB4 h2.lt).cell 0 _ rfl; have y0 := (h0.below hB4 h0.lt).frozen 0; have y1 := (h1.below hB4 h1.lt).frozen 0; have y2 := (h2.below hB4 h2.lt).frozen 0)
      have hb4 := HB.out
      obtain ⟨h0, h1, h2⟩ := HH.out
      have hk : w.heap.size ≤ W.heap.size := hb4.size
      have t0 := ((h0.below hB4 h0.lt).set 0 (.slice none 0 0)).setOther (g := w.heap.size + 1) 0 (.int .i64 ((x.1 : Int) + 1)) (by omega)
      have t1 := ((h1.below hB4 h1.lt).setOther (g := w.heap.size) 0 (.slice none 0 0) (by omega)).set 0 (.int .i64 ((x.1 : Int) + 1))
      have t2 := ((h2.below hB4 h2.lt).setOther (g := w.heap.size) 0 (.slice none 0 0) (by omega)).setOther (g := w.heap.size + 1) 0 (.int .i64 ((x.1 : Int) + 1)) (by omega)
      have s0 := t0.setOther (g := w.heap.size + 1 + 1) 0 (.int .i64 13) (by omega)
      have s1 := t1.setOther (g := w.heap.size + 1 + 1) 0 (.int .i64 13) (by omega)
      have s2 := t2.set 0 (.int .i64 13)
      refine ⟨((((others_below hB4).trans (KeepsOthers.setCell _ _ _)).trans (KeepsOthers.setCell _ _ _)).trans (KeepsOthers.setCell _ _ _)).from _, ⟨rfl, pre, x, rfl, ⟨s0, ?_, s2⟩, H7.out, HOK.out⟩,
        (((hb4.trans (hB4.mono hk)).setCell (p := ⟨w.heap.size, 0, none⟩) (Nat.le_refl _) _).setCell (p := ⟨w.heap.size + 1, 0, none⟩) (Nat.le_succ _) _).setCell (p := ⟨w.heap.size + 1 + 1, 0, none⟩) (by show w.heap.size ≤ w.heap.size + 1 + 1; omega) _⟩
      have e1 : ((x.1 + 1 : Nat) : Int) = (x.1 : Int) + 1 := by omega
      rw [e1]
      exact s1
    · cases hws : wds (nb (lnAt s.data.toList x)) with
      | nil =>
        have hsp : ∀ Z, Calls Tryz.prog 87 #[.string ⟨(lnAt s.data.toList x).toArray⟩] Z fun e w' => ∃ B, e = .returned (.tuple #[.slice (some ⟨B, 0, none⟩) 0 0, .bool true]) ∧ Below Z.heap.size Z w' := fun Z => (hsplit Z).mono fun e w' hh => by
          obtain ⟨hc, hb⟩ := hh
          rcases hc with ⟨_, B, hc, _⟩ | ⟨hc, _⟩
          · rw [hws] at hc
            exact ⟨B, hc, hb⟩
          · rw [hok] at hc; cases hc
        have HOK := Lib.hid hok
        have HWS := Lib.hid (HX.out _ hws)
        have HH := Lib.hid (And.intro h0 (And.intro h1 (And.intro h2 (And.intro h3 h4))))
        clear hsplit hok hws h7 h6 h5 hB
        gi_wp2_with (refine ⟨trivial, ?_⟩; gi_at_call 87; refine (CallsIn.inRound l (callsIn_wide.2 (hsp W))).mono ?_; rintro e w4 ⟨B4, rfl, hB4⟩)
        have hb4 := HB.out
        refine ⟨(others_below hB4).from _, trivial, ⟨A, c, ls, ⟨h0.below hB4 h0.lt, h1.below hB4 h1.lt, h2.below hB4 h2.lt, h3.below hB4 h3.lt⟩, h4.below hB4 (Nat.le_refl _), H5.out.below hB4, ?_, ?_⟩, hb4.trans (hB4.mono hb4.size)⟩
        · rw [H6.out, HWS.out]; exact (if_pos trivial).symm
        · intro i hi
          rcases List.mem_append.1 hi with hi | hi
          · exact H7.out i hi
          · rw [List.mem_singleton] at hi
            subst hi
            exact HOK.out
      | cons w0 wr =>
        obtain ⟨ws, hwe⟩ : ∃ ws, w0 :: wr = ws := ⟨_, rfl⟩
        have hne : ws ≠ [] := by rw [← hwe]; exact List.cons_ne_nil _ _
        rw [hwe] at hws
        have hsp : ∀ Z, Calls Tryz.prog 87 #[.string ⟨(lnAt s.data.toList x).toArray⟩] Z fun e w' => ∃ B, e = .returned (.tuple #[.slice (some ⟨B, 0, none⟩) ws.length ws.length, .bool true]) ∧ WR w' B ws ∧ Z.heap.size ≤ B ∧ Below Z.heap.size Z w' := fun Z => (hsplit Z).mono fun e w' hh => by
          obtain ⟨hc, hb⟩ := hh
          rcases hc with ⟨_, B, hc, hB0, hown⟩ | ⟨hc, _⟩
          · rw [hws] at hc hown
            exact ⟨B, hc, WR.of_own hown, hB0, hb⟩
          · rw [hok] at hc; cases hc
        have HOK := Lib.hid hok
        have HWS := Lib.hid (HX.out _ hws)
        have HNE := Lib.hid hne
        have hlen0 : (0 : Int) < (ws.length : Int) := by
          have := List.length_pos_iff.2 hne
          omega
        obtain ⟨i0, hi0, hz0, hz1, hz2⟩ := info_parts infoLn
        have HB0 : Hid (w.heap.size ≤ W.heap.size) := Lib.hid hB.size
        clear hsplit hok hws h7 h6 h5 hB hwe hne HX
        gi_wp2_with (first
          | (refine ⟨trivial, ?_⟩; gi_at_call 87; refine (CallsIn.inRound l (callsIn_wide.2 (hsp W))).mono ?_; rintro e w4 ⟨B4, rfl, hWR, hBz, hB4⟩
             have q3 := (h3.below hB4 h3.lt).cell 0 _ rfl
             have own4 := h4.below hB4 (Nat.le_refl _))
          | (gi_at_builtin
             refine wpListIn_append_own _ rfl _ _ 96 rfl w.heap.size 158 i0 _ 2 32 Tryz.underlying96 hi0 hz0 hz1 hz2 rfl (by decide) _ _ _ rfl (World.ownsRow.alloc own4 _) ⟨w4.heap.size, 0, none⟩ 1 1 [.int .i64 ((x.1 : Int) + 1), .slice (some ⟨B4, 0, none⟩) ws.length ws.length] rfl rfl (cell_two_new' _ _ _ _) (by simp [Value.oneCell']) (by unfold maxLen; omega) (by omega) (by have := hB4.size; have := HB0.out; simp; omega) ?_
             intro v' w7 hown7 hgrow7 _
             obtain ⟨A7, c7, rfl⟩ := ownsRow_parts hown7
             have hnr := (OwnC.alloc own4 (.cells #[.int .i64 ((x.1 : Int) + 1), .slice (some ⟨B4, 0, none⟩) ws.length ws.length] 158)).not_row (h_old _ _ _ _ (h3.below hB4 h3.lt)) (by decide)
             have hlt4 : w.heap.size + 1 + 1 + 1 < (w4.alloc (.cells #[.int .i64 ((x.1 : Int) + 1), .slice (some ⟨B4, 0, none⟩) ws.length ws.length] 158)).heap.size := by have := (h3.below hB4 h3.lt).lt; simp; omega
             have r3 : RowC w7 (w.heap.size + 1 + 1 + 1) #[.slice A ls.length c] 96 := (hgrow7.block _ hlt4 hnr).trans (h_old _ _ _ _ (h3.below hB4 h3.lt))
             have q37 := r3.cell 0 _ rfl
             have y37 := r3.frozen 0))
        have hb4 := HB.out
        have hk : w.heap.size ≤ W.heap.size := hb4.size
        have hbl : Below w.heap.size w4 w7 := ((Below.refl _ w4).alloc (by have := hB4.size; omega) _).grown hgrow7 (by have := hB4.size; simp; omega) (fun k e => by have := (World.ownsRow.lt own4 k e).1; omega)
        have hne3 : ∀ b', (∃ cur T, w4.heap[b']? = some (Obj.cells cur T) ∧ T ≠ 158) → w7.heap[b']? = w4.heap[b']? := fun b' hh => by
          obtain ⟨cur, T, hc, hT⟩ := hh
          have hb' : b' < w4.heap.size := (Array.getElem?_eq_some_iff.1 hc).1
          exact (hgrow7.block b' (by simp; omega) ((OwnC.alloc own4 (.cells #[.int .i64 ((x.1 : Int) + 1), .slice (some ⟨B4, 0, none⟩) ws.length ws.length] 158)).not_row (h_old _ _ _ _ hc) hT)).trans (Below.heap_alloc _ _ _ hb')
        have z0 := (h0.below hB4 h0.lt)
        have z1 := (h1.below hB4 h1.lt)
        have z2 := (h2.below hB4 h2.lt)
        have r0 : RowC w7 _ _ _ := (hne3 _ ⟨_, _, z0, by decide⟩).trans z0
        have r1 : RowC w7 _ _ _ := (hne3 _ ⟨_, _, z1, by decide⟩).trans z1
        have r2 : RowC w7 _ _ _ := (hne3 _ ⟨_, _, z2, by decide⟩).trans z2
        have hlr : LRc (w7.setCell ⟨w.heap.size + 1 + 1 + 1, 0, none⟩ (.slice A7 (ls.length + 1) c7)) (ls ++ [⟨x.1 + 1, B4, ws.length, ws⟩]) := by
          have h4r : LRc w4 (ls ++ [⟨x.1 + 1, B4, ws.length, ws⟩]) := fun y hy => by
            rcases List.mem_append.1 hy with hy | hy
            · exact H5.out.below hB4 y hy
            · rw [List.mem_singleton] at hy
              subst hy
              exact ⟨HNE.out, rfl, hWR⟩
          have h7r : LRc w7 (ls ++ [⟨x.1 + 1, B4, ws.length, ws⟩]) := h4r.of fun b' _ ⟨cur, T, hc, hT⟩ => hne3 b' ⟨cur, T, hc, by rw [hT]; decide⟩
          refine h7r.of fun b' _ ⟨cur, T, hc, hT⟩ => Below.heap_setCell _ _ _ _ ?_
          intro e
          have e' : b' = w.heap.size + 1 + 1 + 1 := e
          subst e'
          rw [show w7.heap[w.heap.size + 1 + 1 + 1]? = _ from r3] at hc
          injection hc with hc
          injection hc with _ hc
          rw [hT] at hc
          exact absurd hc (by decide)
        have hown8 : OwnC (w7.setCell ⟨w.heap.size + 1 + 1 + 1, 0, none⟩ (.slice A7 (ls.length + 1) c7)) w.heap.size 158 2 A7 (ls ++ [(⟨x.1 + 1, B4, ws.length, ws⟩ : Ln)]).length c7 (lcell (ls ++ [⟨x.1 + 1, B4, ws.length, ws⟩])) := by
          have h7o : OwnC w7 w.heap.size 158 2 A7 (ls ++ [(⟨x.1 + 1, B4, ws.length, ws⟩ : Ln)]).length c7 (lcell (ls ++ [⟨x.1 + 1, B4, ws.length, ws⟩])) := by
            unfold OwnC
            rw [← lcells_snoc]
            rw [List.length_append]
            exact hown7
          exact ownC_setRow h7o r3 (by decide) 0 _
        refine ⟨((((others_below hB4).trans (KeepsOthers.alloc _ _)).trans (KeepsOthers.of_grownBy hgrow7 fun j o hj ho => (OwnC.alloc own4 _).own_cells j o hj ho)).trans (KeepsOthers.setCell _ _ _)).from _, trivial, ⟨A7, c7, ls ++ [⟨x.1 + 1, B4, ws.length, ws⟩], ⟨r0.setOther _ _ (by omega), r1.setOther _ _ (by omega), r2.setOther _ _ (by omega), ?_⟩, hown8, hlr, ?_, ?_⟩, ((hb4.trans (hB4.mono hk)).trans hbl).setCell (p := ⟨w.heap.size + 1 + 1 + 1, 0, none⟩) (by show w.heap.size ≤ w.heap.size + 1 + 1 + 1; omega) _⟩
        · rw [List.length_append]
          exact r3.set 0 _
        · rw [HWS.out, if_neg HNE.out, List.map_append, H6.out]
          rfl
        · intro i hi
          rcases List.mem_append.1 hi with hi | hi
          · exact H7.out i hi
          · rw [List.mem_singleton] at hi
            subst hi
            exact HOK.out
  case done =>
    rintro D ys W hD rfl ⟨⟨A, c, ls, ⟨h0, h1, h2, h3⟩, h4, h5, h6, h7⟩, hB⟩ hK
    have hlin : linesF s.data.toList = (accL s.data.toList (List.finRange (nl s.data.toList)), 0) := lines_ok _ fun i => h7 i (List.mem_finRange i)
    have q0 := h0.cell 0 _ rfl
    have q1 := h1.cell 0 _ rfl
    have q2 := h2.cell 0 _ rfl
    have q3 := h3.cell 0 _ rfl
    have y0 := h0.frozen 0
    have y1 := h1.frozen 0
    have y2 := h2.frozen 0
    have HH := Lib.hid (And.intro h0 (And.intro h1 (And.intro h2 (And.intro h4 (And.intro h5 (And.intro h6 (And.intro hB hlin)))))))
    clear h0 h1 h2 h3 h4 h5 h6 h7 hB hlin
    gi_wp2
    obtain ⟨h0, h1, h2, h4, h5, h6, hB, hlin⟩ := HH.out
    have hK1 := ((((KeepsOthers.setCell W ⟨w.heap.size, 0, none⟩ (.slice A ls.length c)).trans (KeepsOthers.setCell _ ⟨w.heap.size + 1, 0, none⟩ (.int .i64 0))).trans (KeepsOthers.setCell _ ⟨w.heap.size + 1 + 1, 0, none⟩ (.int .i64 0)))).same D _ hK rfl
    have t0 := ((h0.set 0 (.slice A ls.length c)).setOther (g := w.heap.size + 1) 0 (.int .i64 0) (by omega)).setOther (g := w.heap.size + 1 + 1) 0 (.int .i64 0) (by omega)
    have t1 := ((h1.setOther (g := w.heap.size) 0 (.slice A ls.length c) (by omega)).set 0 (.int .i64 0)).setOther (g := w.heap.size + 1 + 1) 0 (.int .i64 0) (by omega)
    have t2 := ((h2.setOther (g := w.heap.size) 0 (.slice A ls.length c) (by omega)).setOther (g := w.heap.size + 1) 0 (.int .i64 0) (by omega)).set 0 (.int .i64 0)
    have o1 := ownC_setRow h4 h0 (by decide) 0 (.slice A ls.length c)
    have o2 := ownC_setRow o1 (h1.setOther (g := w.heap.size) 0 (.slice A ls.length c) (by omega)) (by decide) 0 (.int .i64 0)
    have o3 := ownC_setRow o2 ((h2.setOther (g := w.heap.size) 0 (.slice A ls.length c) (by omega)).setOther (g := w.heap.size + 1) 0 (.int .i64 0) (by omega)) (by decide) 0 (.int .i64 0)
    have o4 := ownC_kept o3 (grownBy_putObj' _ D (.deferred none)) (fun r e => by cases e; exact ⟨_, hK1, rfl⟩)
    have l1 : LRc (((W.setCell ⟨w.heap.size, 0, none⟩ (.slice A ls.length c)).setCell ⟨w.heap.size + 1, 0, none⟩ (.int .i64 0)).setCell ⟨w.heap.size + 1 + 1, 0, none⟩ (.int .i64 0)) ls := h5.of fun b' _ hh => by
      obtain ⟨cur, T, hc, hT⟩ := hh
      have n0 : b' ≠ w.heap.size := fun e => by
        rw [e, show W.heap[w.heap.size]? = _ from h0] at hc
        injection hc with hc
        injection hc with _ hc
        rw [hT] at hc
        exact absurd hc (by decide)
      have n1 : b' ≠ w.heap.size + 1 := fun e => by
        rw [e, show W.heap[w.heap.size + 1]? = _ from h1] at hc
        injection hc with hc
        injection hc with _ hc
        rw [hT] at hc
        exact absurd hc (by decide)
      have n2 : b' ≠ w.heap.size + 1 + 1 := fun e => by
        rw [e, show W.heap[w.heap.size + 1 + 1]? = _ from h2] at hc
        injection hc with hc
        injection hc with _ hc
        rw [hT] at hc
        exact absurd hc (by decide)
      rw [Below.heap_setCell _ _ _ _ n2, Below.heap_setCell _ _ _ _ n1, Below.heap_setCell _ _ _ _ n0]
    have l2 := l1.kept (grownBy_putObj' _ D (.deferred none)) (fun r e => by cases e; exact ⟨_, hK1, rfl⟩)
    have k0 := rowC_kept t0 (grownBy_putObj' _ D (.deferred none)) (fun r e => by cases e; exact ⟨_, hK1, rfl⟩)
    have k1 := rowC_kept t1 (grownBy_putObj' _ D (.deferred none)) (fun r e => by cases e; exact ⟨_, hK1, rfl⟩)
    have k2 := rowC_kept t2 (grownBy_putObj' _ D (.deferred none)) (fun r e => by cases e; exact ⟨_, hK1, rfl⟩)
    refine ⟨by simp, .inl ⟨_, _, rfl, run_takeDeferred hK1, ?_⟩⟩
    refine ⟨_, results_cells3 Tryz.results48 _ _ ⟨w.heap.size, 0, none⟩ ⟨w.heap.size + 1, 0, none⟩ ⟨w.heap.size + 1 + 1, 0, none⟩ (.slice A ls.length c) (.int .i64 0) (.int .i64 0) rfl rfl rfl (Tryz.isAgg96 _) (Tryz.isAgg3 _) (Tryz.isAgg27 _) (k0.cell 0 _ rfl) (k1.cell 0 _ rfl) (k2.cell 0 _ rfl), .inl ⟨?_, A, c, ls, rfl, ?_, o4, l2⟩, ((((hB.setCell (p := ⟨w.heap.size, 0, none⟩) (Nat.le_refl _) _).setCell (p := ⟨w.heap.size + 1, 0, none⟩) (Nat.le_succ _) _).setCell (p := ⟨w.heap.size + 1 + 1, 0, none⟩) (by show w.heap.size ≤ w.heap.size + 1 + 1; omega) _)).trans (belowK_b (w := w) (Nat.le_refl _) _ D _ _ (by omega) hK1 rfl rfl)⟩
    · rw [hlin]
    · rw [hlin]; exact h6
  case stop =>
    rintro D c pre W hD hpre ⟨⟨rfl, pre', x, rfl, ⟨h0, h1, h2⟩, h3, h4⟩, hB⟩ hK
    have hlin : linesF s.data.toList = ([], x.1 + 1) := lines_bad _ x (fun i hi => h3 i (pre_last hpre i hi)) h4
    gi_wp2
    refine ⟨by simp, .inl ⟨_, _, rfl, run_takeDeferred hK, ?_⟩⟩
    have k0 := rowC_kept h0 (grownBy_putObj' _ D (.deferred none)) (fun r e => by cases e; exact ⟨_, hK, rfl⟩)
    have k1 := rowC_kept h1 (grownBy_putObj' _ D (.deferred none)) (fun r e => by cases e; exact ⟨_, hK, rfl⟩)
    have k2 := rowC_kept h2 (grownBy_putObj' _ D (.deferred none)) (fun r e => by cases e; exact ⟨_, hK, rfl⟩)
    refine ⟨_, results_cells3 Tryz.results48 _ _ ⟨w.heap.size, 0, none⟩ ⟨w.heap.size + 1, 0, none⟩ ⟨w.heap.size + 1 + 1, 0, none⟩ (.slice none 0 0) (.int .i64 ((x.1 + 1 : Nat) : Int)) (.int .i64 13) rfl rfl rfl (Tryz.isAgg96 _) (Tryz.isAgg3 _) (Tryz.isAgg27 _) (k0.cell 0 _ rfl) (k1.cell 0 _ rfl) (k2.cell 0 _ rfl), .inr ⟨?_, ?_⟩, hB.trans (belowK_b (w := w) (Nat.le_refl _) W D _ _ (by omega) hK rfl rfl)⟩
    · rw [hlin]; exact Nat.succ_ne_zero _
    · rw [hlin]
/-- The words of a line are few. -/
theorem scan_few : ∀ (lines : List (List UInt8)) (n N : Nat) (acc : List (Nat × List (List UInt8))), (∀ l ∈ lines, l.length ≤ N) → (∀ x ∈ acc, x.2.length ≤ N) → ∀ x ∈ (scan n lines acc).1, x.2.length ≤ N
  | [], n, N, acc, _, ha => ha
  | l :: r, n, N, acc, hl, ha => by
    show ∀ x ∈ (if (nb l).all okS = true then scan (n + 1) r (if wds (nb l) = [] then acc else acc ++ [(n, wds (nb l))]) else ([], n)).1, _
    split
    · refine scan_few r (n + 1) N _ (fun z hz => hl z (List.mem_cons_of_mem _ hz)) ?_
      split
      · exact ha
      · intro x hx
        rcases List.mem_append.1 hx with h | h
        · exact ha x h
        · rw [List.mem_singleton] at h
          subst h
          have h1 := wdF_length (nb l) [] []
          have h2 : (nb l).length ≤ l.length := by unfold nb; exact (List.takeWhile_sublist _).length_le
          have h3 := hl l (List.mem_cons_self ..)
          show (wds (nb l)).length ≤ N
          unfold wds
          simp only [List.length_nil] at h1
          omega
    · intro x hx
      cases hx
theorem lines_few (L : List UInt8) : ∀ x ∈ (linesF L).1, x.2.length ≤ L.length := scan_few _ _ _ _ (fun l hl => lns_mem L l hl) fun x hx => by cases hx
end Go.Proofs.YtcmdmnnkbliggaaGreatDoor

/-
  What Lines tells of a text that is right, and of another one; a text with a line more behind it.
-/
namespace Go.Proofs.YtcmdmnnkbliggaaGreatDoor
open Go.RowKit

theorem tell_ws (ls : List Ln) : ls.map (·.ws) = (ls.map Ln.tell).map (·.2) := by
  rw [List.map_map]; rfl
theorem scan_len : ∀ (lines : List (List UInt8)) (n : Nat) (acc : List (Nat × List (List UInt8))), (scan n lines acc).1.length ≤ acc.length + lines.length
  | [], _, acc => Nat.le_refl _
  | l :: r, n, acc => by
    show (if (nb l).all okS = true then scan (n + 1) r (if wds (nb l) = [] then acc else acc ++ [(n, wds (nb l))]) else ([], n)).1.length ≤ _
    split
    · have h1 := scan_len r (n + 1) (if wds (nb l) = [] then acc else acc ++ [(n, wds (nb l))])
      have h2 : (if wds (nb l) = [] then acc else acc ++ [(n, wds (nb l))]).length ≤ acc.length + 1 := by
        split
        · omega
        · simp
      simp only [List.length_cons]
      omega
    · exact Nat.zero_le _
theorem lines_okL_len {L : List UInt8} {ls : List Ln} (h : ls.map Ln.tell = (linesF L).1) : ls.length ≤ L.length + 1 := by
  have h1 := scan_len (lns L) 1 []
  have h2 := (lns_length L).2
  have h3 := congrArg List.length h
  rw [List.length_map] at h3
  have h4 : scan 1 (lns L) [] = linesF L := rfl
  rw [h4] at h1
  simp only [List.length_nil] at h1
  omega
theorem numF_ws (l : List (List (List UInt8))) (k : Nat) : (numF k l).map (·.2) = l := by
  apply List.ext_getElem?
  intro i
  rw [List.getElem?_map, numF_at]
  cases l[i]? <;> rfl

end Go.Proofs.YtcmdmnnkbliggaaGreatDoor
