/-
  The contract of flow.reached: which places are reached. Sent into a channel with room, received by a select with a default.
-/
import Derived.Test.YtmndolojfdekdaaFb
import Derived.Test.YtmndolojfdekdaaFc
import Derived.Test.YtmndolojfdekdaaFd
import Derived.Conc.SmallLaws
namespace Go.Proofs.Ytmndolojfdekdaa
open Go.RowKit Go.Conc

/-- A row of booleans. -/
def boolRow (n : Nat) (M : Nat → Bool) : Array Value := ((List.range n).map fun i => Value.bool (M i)).toArray
theorem boolRow_at (n : Nat) (M : Nat → Bool) (i : Nat) (hi : i < n) : (boolRow n M)[i]? = some (.bool (M i)) := by simp [boolRow, hi]
theorem boolRow_set (n : Nat) (M : Nat → Bool) (to : Nat) : (boolRow n M).setIfInBounds to (.bool true) = boolRow n (upd M to) := by
  apply Array.ext_getElem?
  intro i
  rw [Array.getElem?_setIfInBounds]
  by_cases h : to = i
  · subst h
    rw [if_pos rfl]
    by_cases hn : to < n
    · simp [boolRow, hn, upd]
    · simp [boolRow, hn]
  · rw [if_neg h]
    by_cases hn : i < n
    · have hne : (i == to) = false := by simp; omega
      simp [boolRow, hn, upd, hne]
    · simp [boolRow, hn]
theorem mk_bools (n : Nat) (hn : n ≤ 4096) (W : World) : (Instr.makeSlice 25 (.int .i64 (n : Int)) (.int .i64 (n : Int))).run Try.prog W = .ok (.slice (some ⟨W.heap.size, 0, none⟩) n n) (W.alloc (.cells (boolRow n fun _ => false) 4)) := by
  obtain ⟨i0, hi0, hz0, hz1, hz2⟩ := info_parts infoBool
  have hr := run_make (P := Try.prog) W 25 4 i0 _ Try.underlying25 hi0 hz0 .i64 .i64 n n (by omega) (Int.le_refl _) (by rw [hz2]; omega) (by omega)
  rw [hz1] at hr
  simp only [Int.toNat_natCast] at hr
  have e : madeCells (Value.bool false).cells (n * 1) = boolRow n fun _ => false := by
    rw [Nat.mul_one]
    apply Array.ext_getElem?
    intro i
    by_cases hi : i < n
    · simp [madeCells, boolRow, hi, Value.cells, Nat.mod_one]
    · simp [madeCells, boolRow, hi, Value.cells]
  rw [e] at hr
  exact hr
theorem mk_ahead (n : Nat) (hn : n ≤ 4096) (W : World) : (Instr.makeChan 116 (.int .i64 (n : Int))).run Try.prog W = .ok (.chan (some W.heap.size)) (W.alloc (.chan n #[] false 0 0 false)) := by
  obtain ⟨i0, hi0, hz0, hz1, hz2⟩ := info_parts infoF
  exact run_makeChan (P := Try.prog) (w := W) Try.underlying116 hi0 .i64 n (by omega) (by rw [hz2]; omega)

/-- What lies in memory while the queue is gone through. -/
structure RS (g : Nat → IV) (n : Nat) (w0 : World) (A : Option Addr) (cp mb MB AB PB c : Nat) (W : World) (M : Nat → Bool) (q : List Nat) : Prop where
  row : RowAt W mb (boolRow n M) 4
  met : RowAt W MB #[.slice (some ⟨mb, 0, none⟩) n n] 25
  ahd : RowAt W AB #[.chan (some c)] 116
  prg : RowAt W PB #[.slice A n cp] 73
  chn : Chn W c n g q
  bel : Below w0.heap.size w0 W
theorem setChan_at (w : World) (c c' cap : Nat) (buf : Array Value) (closed : Bool) (s r : Nat) (tm : Bool) (h : c' ≠ c) : (w.setChan c cap buf closed s r tm).heap[c']? = w.heap[c']? := by
  simp [World.setChan, Array.getElem?_setIfInBounds_ne (Ne.symm h)]
section
variable {g : Nat → IV} {n : Nat} {w0 : World} {A : Option Addr} {cp mb MB AB PB c : Nat} {W W' : World} {M : Nat → Bool} {q : List Nat}
theorem RS.below {N : Nat} (h : RS g n w0 A cp mb MB AB PB c W M q) (hb : Below N W W') (h1 : mb < N) (h2 : MB < N) (h3 : AB < N) (h4 : PB < N) (h5 : c < N) (h6 : w0.heap.size ≤ N) : RS g n w0 A cp mb MB AB PB c W' M q := by
  refine ⟨h.row.below hb h1, h.met.below hb h2, h.ahd.below hb h3, h.prg.below hb h4, ?_, h.bel.trans (hb.mono h6)⟩
  obtain ⟨s, r, hc⟩ := h.chn
  exact ⟨s, r, (hb.block c h5).trans hc⟩
theorem RS.chan (h : RS g n w0 A cp mb MB AB PB c W M q) (q' : List Nat) (s r : Nat) (hs : c < W.heap.size) (d1 : mb ≠ c) (d2 : MB ≠ c) (d3 : AB ≠ c) (d4 : PB ≠ c) (hc : w0.heap.size ≤ c) :
    RS g n w0 A cp mb MB AB PB c (W.setChan c n (q'.map fun i => flV (g i) i).toArray false s r false) M q' := by
  refine ⟨?_, ?_, ?_, ?_, ⟨s, r, heap_setChan W c n _ _ _ _ _ hs⟩, below_setChan h.bel hc _ _ _ _ _ _⟩
  · exact (setChan_at _ _ _ _ _ _ _ _ _ d1).trans h.row
  · exact (setChan_at _ _ _ _ _ _ _ _ _ d2).trans h.met
  · exact (setChan_at _ _ _ _ _ _ _ _ _ d3).trans h.ahd
  · exact (setChan_at _ _ _ _ _ _ _ _ _ d4).trans h.prg
theorem RS.mark (h : RS g n w0 A cp mb MB AB PB c W M q) (to : Nat) (d2 : MB ≠ mb) (d3 : AB ≠ mb) (d4 : PB ≠ mb) (d5 : c ≠ mb) (hm : w0.heap.size ≤ mb) :
    RS g n w0 A cp mb MB AB PB c (W.setCell ⟨mb, to, none⟩ (.bool true)).drew (upd M to) q := by
  have hr := h.row.set to (.bool true)
  rw [boolRow_set] at hr
  obtain ⟨s, r, hc⟩ := h.chn
  refine ⟨hr, ?_, ?_, ?_, ⟨s, r, (Below.heap_setCell _ _ _ _ d5).trans hc⟩, (h.bel.setCell (p := ⟨mb, to, none⟩) hm _).drew⟩
  · exact (Below.heap_setCell _ _ _ _ d2).trans h.met
  · exact (Below.heap_setCell _ _ _ _ d3).trans h.ahd
  · exact (Below.heap_setCell _ _ _ _ d4).trans h.prg
end
/-- A place among those that came in. -/
def Plc (w0 : World) (A : Option Addr) (n : Nat) (g : Nat → IV) : Prop := ∃ pb off, A = some ⟨pb, off, none⟩ ∧ pb < w0.heap.size ∧ ∀ i, i < n * 6 → w0.cell? ⟨pb, off + i, none⟩ = some (fcell g i)
/-- The closure, in those words. -/
theorem lead_rs {g : Nat → IV} {n : Nat} {w0 : World} {A : Option Addr} {cp mb MB AB PB c : Nat} {W : World} {M : Nat → Bool} {q : List Nat} (h : RS g n w0 A cp mb MB AB PB c W M q) (hP : Plc w0 A n g)
    (d2 : MB ≠ mb) (d3 : AB ≠ mb) (d4 : PB ≠ mb) (d5 : c ≠ mb) (d6 : MB ≠ c) (d7 : AB ≠ c) (d8 : PB ≠ c) (hm : w0.heap.size ≤ mb) (hc0 : w0.heap.size ≤ c) (to : Nat) (hto : to < n) (hq : M to = false → q.length < n) :
    Calls Try.prog 53 #[.int .i64 to, .pointer (some ⟨MB, 0, none⟩), .pointer (some ⟨AB, 0, none⟩), .pointer (some ⟨PB, 0, none⟩)] W fun e w' => e = .returned (.tuple #[]) ∧
      (if M to = true then RS g n w0 A cp mb MB AB PB c w' M q else RS g n w0 A cp mb MB AB PB c w' (upd M to) (q ++ [to])) ∧ W.heap.size ≤ w'.heap.size ∧ ∀ b', b' ≠ mb → b' ≠ c → w'.heap[b']? = W.heap[b']? := by
  obtain ⟨pb, off, rfl, hpb, hpc⟩ := hP
  have k1 := h.met.cell 0 _ rfl
  have k2 := h.ahd.cell 0 _ rfl
  have k3 := h.prg.cell 0 _ rfl
  have k4 := h.row.cell to _ (boolRow_at n M to hto)
  have k5 := h.row.frozen to
  cases e : M to
  · rw [e] at k4
    obtain ⟨s, r, hc⟩ := h.chn
    have hcs : c < W.heap.size := (Array.getElem?_eq_some_iff.1 hc).1
    refine (lead_yes to n mb MB AB PB c pb off cp s r (g to) _ W k1 hto k4 k5 k2 hc (by simpa using hq e) k3 (fun j hj => ?_) d3 d4 (by omega) d5).mono ?_
    · rw [h.bel.cell (p := ⟨pb, off + (to * 6 + j), none⟩) hpb, hpc _ (by omega), fcell_at g to j hj]
    · rintro x w' ⟨rfl, rfl⟩
      refine ⟨rfl, ?_, by simp [World.setChan, World.setCell, World.drew], fun b' h1 h2 => (setChan_at _ _ _ _ _ _ _ _ _ h2).trans (Below.heap_setCell _ _ _ _ h1)⟩
      rw [if_neg (by decide)]
      have h2 := (h.mark to d2 d3 d4 d5 hm).chan (q ++ [to]) (s + 1) r (by simpa [World.setCell, World.drew] using hcs) (Ne.symm d5) d6 d7 d8 hc0
      have e2 : ((q ++ [to]).map fun i => flV (g i) i).toArray = (q.map fun i => flV (g i) i).toArray.push (flV (g to) to) := by simp
      rw [e2] at h2
      exact h2
  · rw [e] at k4
    refine (lead_no to n mb MB _ _ W k1 hto k4).mono ?_
    rintro x w' ⟨rfl, rfl⟩
    exact ⟨rfl, by rw [if_pos rfl]; exact h, Nat.le_refl _, fun _ _ _ => rfl⟩
end Go.Proofs.Ytmndolojfdekdaa
