/-
  The contract of flow.seen; the pruned program by a plain function.
-/
import Derived.Test.YtjblkkffdhaiiabFk
import Derived.Test.YtjblkkffdhaiiabFh
namespace Go.Proofs.Ytjblkkffdhaiiab
open Go.RowKit Go.Shelf

set_option maxRecDepth 100000 in
theorem seen_any (A : Option Addr) (n cp : Nat) (g : Nat → IV) (w : World) (hP : Plc w A n g) (F : Fmd g n) (hok : ∀ i, i < n → (g i).ok) :
    Calls Try.prog 43 #[.slice A n cp] w fun e w' => ∃ b Mx, e = .returned (.func (.func 73) #[] #[.pointer (some ⟨w.heap.size, 0, none⟩), .pointer (some ⟨Mx, 0, none⟩)]) ∧ w.heap.size < b ∧ b < Mx ∧
      RowAt w' w.heap.size #[.slice A n cp] 78 ∧ RowAt w' Mx #[.slice (some ⟨b, 0, none⟩) n n] 22 ∧ RowAt w' b (boolRow n (way g n)) 4 ∧ Below w.heap.size w w' := by
  have hb0 : Below w.heap.size w (w.alloc (.cells #[.slice A n cp] 78)) := (Below.refl _ _).alloc (Nat.le_refl _) _
  have hP1 : Plc (w.alloc (.cells #[.slice A n cp] 78)) A n g := by
    obtain ⟨pb, off, h1, h2, h3⟩ := hP
    exact ⟨pb, off, h1, by simp; omega, fun i hi => (hb0.cell (p := ⟨pb, off + i, none⟩) h2).trans (h3 i hi)⟩
  have HC := Lib.hid (reached_any A n cp g _ hP1 F hok)
  have HB := Lib.hid hb0
  clear hb0 hP1 hP F hok
  go_enter Try.func43, Try.ntmps43
  go_wp2_with (go_at_call 39; refine HC.out.mono ?_; rintro e w1 ⟨b, rfl, hb, hrow, hB1⟩)
  go_ret
  have hs : w.heap.size < b := by simp at hb; omega
  exact ⟨b, w1.heap.size, rfl, hs, hrow.lt, h_old _ _ _ _ ((show RowAt _ w.heap.size #[.slice A n cp] 78 from heap_alloc_last w _).below hB1 (by simp)), heap_alloc_last w1 _, h_old _ _ _ _ hrow, (HB.out.trans (hB1.mono (by simp))).alloc (by have := hB1.size; simp at this; omega) _⟩

/-- Four blocks lie as they lay. -/
def K4 (a b c d : Nat) (W W' : World) : Prop := (W'.heap[a]? = W.heap[a]? ∧ W'.heap[b]? = W.heap[b]?) ∧ (W'.heap[c]? = W.heap[c]? ∧ W'.heap[d]? = W.heap[d]?)
theorem K4.trans {a b c d : Nat} {U V W : World} (h : K4 a b c d U V) (k : K4 a b c d V W) : K4 a b c d U W := ⟨⟨k.1.1.trans h.1.1, k.1.2.trans h.1.2⟩, k.2.1.trans h.2.1, k.2.2.trans h.2.2⟩
theorem K4.book {a b c d : Nat} {w : World} (ha : a < w.heap.size) (hb : b < w.heap.size) (hc : c < w.heap.size) (hd : d < w.heap.size) (W : World) (l : Nat) (o o' : Obj) (hl : w.heap.size ≤ l) (_ : W.heap[l]? = some o) (_ : o.isCells = false) (_ : o.isWalk = false) : K4 a b c d W (W.putObj l o') :=
  ⟨⟨World.putObj_heap_other (by omega), World.putObj_heap_other (by omega)⟩, World.putObj_heap_other (by omega), World.putObj_heap_other (by omega)⟩
theorem seen_stops (F : Fence) (N : Nat) (h8 : F.fn 73) (hro : F.round = none) (hn : 1 ≤ N) (g : Nat → IV) (m cp Bx Mx pb off mb : Nat) (hm : m ≤ 4096) (w : World)
    (s1 : Bx < w.heap.size) (s2 : pb < w.heap.size) (s3 : Mx < w.heap.size) (h1 : w.cell? ⟨Bx, 0, none⟩ = some (.slice (some ⟨pb, off, none⟩) m cp)) (h2 : ∀ i, i < m * 6 → w.cell? ⟨pb, off + i, none⟩ = some (fcell g i)) (h3 : w.cell? ⟨Mx, 0, none⟩ = some (.slice (some ⟨mb, 0, none⟩) m m)) (h4 : RowAt w mb (boolRow m (way g m)) 4) :
    SeqStopsK F N Try.prog 73 #[.pointer (some ⟨Bx, 0, none⟩), .pointer (some ⟨Mx, 0, none⟩)]
      (fun x : Rch g m => #[flV (g x.1) x.1]) (K4 Bx pb Mx mb) (fun ys => ys = rupto g m m (Nat.le_refl _)) (fun _ => True) (cnt g m m) w := fun l J Jx W hW hJ _ hY h0 =>
  seen1_in F N h8 hro hn g m cp l Bx Mx pb off mb hm J Jx hY (fun pre W o h => hJ pre W _ none h (World.grownBy_alloc W o none) (fun r e => by cases e)) W ((hW.cell (p := ⟨Bx, 0, none⟩) s1).trans h1) (fun i hi => (hW.cell (p := ⟨pb, off + i, none⟩) s2).trans (h2 i hi))
    ((hW.cell (p := ⟨Mx, 0, none⟩) s3).trans h3) (h4.below hW h4.lt) h0

/-- Where each place stands, when these have been met one behind the other; how many. -/
def nowP {g : Nat → IV} {n : Nat} (pre : List (Rch g n)) : (Nat → Nat) × Nat := pre.foldl (fun (p : (Nat → Nat) × Nat) x => (fun i => if i = x.1 then p.2 else p.1 i, p.2 + 1)) (fun _ => 0, 0)
theorem nowP_snoc {g : Nat → IV} {n : Nat} (pre : List (Rch g n)) (x : Rch g n) : nowP (pre ++ [x]) = (fun i => if i = x.1 then (nowP pre).2 else (nowP pre).1 i, (nowP pre).2 + 1) := by simp [nowP]
theorem nowP_len {g : Nat → IV} {n : Nat} (pre : List (Rch g n)) : (nowP pre).2 = pre.length := by
  suffices h : ∀ (l : List (Rch g n)) (p : (Nat → Nat) × Nat), (l.foldl (fun (p : (Nat → Nat) × Nat) x => (fun i => if i = x.1 then p.2 else p.1 i, p.2 + 1)) p).2 = p.2 + l.length by
    have := h pre (fun _ => 0, 0)
    unfold nowP; simpa using this
  intro l
  induction l with
  | nil => intro p; rfl
  | cons x l ih =>
    intro p
    simp only [List.foldl_cons, List.length_cons]
    rw [ih]
    show p.2 + 1 + l.length = _
    omega
/-- Where each place stands at the end. -/
def nowF (g : Nat → IV) (n : Nat) (i : Nat) : Nat := if i < n ∧ way g n i = true then cnt g n i else 0
theorem nowP_upto (g : Nat → IV) (n : Nat) : ∀ k h i, (nowP (rupto g n k h)).1 i = if i < k ∧ way g n i = true then cnt g n i else 0
  | 0, _, i => by simp [rupto, nowP]
  | k + 1, h, i => by
    have ih := nowP_upto g n k (by omega) i
    by_cases hw : way g n k = true
    · have e : rupto g n (k + 1) h = rupto g n k (by omega) ++ [⟨k, by omega, hw⟩] := by show rupto g n k _ ++ _ = _; rw [dif_pos hw]
      rw [e, nowP_snoc]
      show (if i = k then (nowP (rupto g n k _)).2 else (nowP (rupto g n k _)).1 i) = _
      by_cases hi : i = k
      · subst hi
        rw [if_pos rfl, nowP_len, rupto_length, if_pos ⟨by omega, hw⟩]
      · rw [if_neg hi, ih]
        by_cases hl : i < k
        · have : i < k + 1 := by omega
          simp [hl, this]
        · have : ¬ i < k + 1 := by omega
          simp [hl, this]
    · have e : rupto g n (k + 1) h = rupto g n k (by omega) := by show rupto g n k _ ++ _ = _; rw [dif_neg hw, List.append_nil]
      rw [e, ih]
      by_cases hi : i = k
      · subst hi
        rw [if_neg (by omega), if_neg (fun h => hw h.2)]
      · by_cases hl : i < k
        · have : i < k + 1 := by omega
          simp [hl, this]
        · have : ¬ i < k + 1 := by omega
          simp [hl, this]
theorem nowP_all (g : Nat → IV) (n : Nat) : (nowP (rupto g n n (Nat.le_refl _))).1 = nowF g n := funext fun i => nowP_upto g n n _ i
/-- A reached place's instruction, leading where it led. -/
def mv (g : Nat → IV) (n : Nat) (i : Nat) : IV :=
  if kd (g i) = 13 then ⟨(g i).c, (g i).t, (g i).f, cnt g n (i + 1 + (g i).k) - cnt g n i - 1⟩
  else if isBr (g i) = true then ⟨(g i).c, cnt g n (i + 1 + (g i).t) - cnt g n i - 1, cnt g n (i + 1 + (g i).f) - cnt g n i - 1, (g i).k⟩
  else g i
/-- The j-th one of the pruned program. -/
def prn (g : Nat → IV) (n j : Nat) : IV := match (rupto g n n (Nat.le_refl _))[j]? with
  | some x => mv g n x.1
  | none => ⟨0, 0, 0, 0⟩
end Go.Proofs.Ytjblkkffdhaiiab
