/-
  Layer 27: memory while paths are gathered: what is kept, a path more, a test more, a test less. (No walk.)
-/
import Derived.Test.YtgndfcjfajnemaaWye
import Derived.Test.YtgndfcjfajnemaaApA
namespace Go.Proofs.Ytgndfcjfajnemaa
open Go.RowKit Go.Shelf
set_option linter.unusedVariables false

def obk (A : Option Addr) : Option Nat := A.map (·.block)
theorem own_obk (A : Option Addr) (n c : Nat) : (Value.slice A n c).ownBlock = obk A := by cases A <;> rfl
/-- Where the boxes lie. -/
structure Bxs where
  P : Nat
  Al : Nat
  Te : Nat
  Fo : Nat
  pb : Nat
/-- None of them. -/
def Bxs.out (x : Bxs) (b : Nat) : Prop := b ≠ x.P ∧ b ≠ x.Al ∧ b ≠ x.Te ∧ b ≠ x.Fo ∧ b ≠ x.pb
structure Bxs.ok (x : Bxs) : Prop where
  pa : x.P ≠ x.Al
  pt : x.P ≠ x.Te
  fa : x.Fo ≠ x.Al
  ft : x.Fo ≠ x.Te
  ba : x.pb ≠ x.Al
  bt : x.pb ≠ x.Te
  at_ : x.Al ≠ x.Te
def follV (x : Bxs) : Value := .func (.func 36) #[] #[.pointer (some ⟨x.P, 0, none⟩), .pointer (some ⟨x.Al, 0, none⟩), .pointer (some ⟨x.Te, 0, none⟩), .pointer (some ⟨x.Fo, 0, none⟩)]
/-- What lies in memory while paths are gathered. -/
structure FM (x : Bxs) (g : Nat → IV) (n : Nat) (w : World) (L : List PV) (ts : List TV) (A : Option Addr) (cA : Nat) (T : Option Addr) (cT : Nat) (S : Nat → Option Addr × Nat) : Prop where
  lo : x.P < w.heap.size ∧ x.Al < w.heap.size ∧ x.Te < w.heap.size ∧ x.Fo < w.heap.size ∧ x.pb < w.heap.size
  pl : RowAt w x.P #[.slice (some ⟨x.pb, 0, none⟩) n n] 64
  pc : ∀ i, i < n * 6 → w.cell? ⟨x.pb, i, none⟩ = some (fcell g i)
  fo : RowAt w x.Fo #[follV x] 94
  al : RowAt w x.Al #[.slice A L.length cA] 25
  alo : OwnC w 0 40 3 A L.length cA (pvcell (fun i => L[i]!) S)
  ao : ∀ b, some b = obk A → x.out b
  te : RowAt w x.Te #[.slice T ts.length cT] 38
  teo : OwnC w 0 49 5 T ts.length cT (tscell fun i => ts[i]!)
  to_ : ∀ b, some b = obk T → x.out b
  cl : ∀ i, i < L.length → Cel w w.heap.size 5 (S i).1 (L[i]!).ts.length (S i).2 (tscell fun j => (L[i]!).ts[j]!) ∧ ∀ b, some b = obk (S i).1 → x.out b ∧ b < w.heap.size ∧ some b ≠ obk A ∧ some b ≠ obk T
/-- What is kept over a gathering. -/
structure GKx (x : Bxs) (A T : Option Addr) (w w' : World) : Prop where
  os : w'.os = w.os
  tape : w'.tape = w.tape
  output : w'.output = w.output
  size : w.heap.size ≤ w'.heap.size
  block : ∀ k, k < w.heap.size → k ≠ x.Al → k ≠ x.Te → some k ≠ obk A → some k ≠ obk T → w'.heap[k]? = w.heap[k]?
theorem own_lt {w : World} {base z n c : Nat} {E : TypeId} {A : Option Addr} {F : Nat → Value} (h : OwnC w base E z A n c F) {b : Nat} (hb : some b = obk A) : base ≤ b ∧ b < w.heap.size ∧ ∃ cur, w.heap[b]? = some (.cells cur E) := by
  rcases h.2 with ⟨hv, _⟩ | ⟨gg, cap, cur, hv, hg, hh, _⟩
  · injection hv with e1
    rw [e1] at hb
    cases hb
  · injection hv with e1
    rw [e1] at hb
    have e2 : b = gg := by injection hb
    subst e2
    exact ⟨hg, (Array.getElem?_eq_some_iff.1 hh).1, cur, hh⟩
/-- The rows of all and of tests are two. -/
theorem FM.apart {x : Bxs} {g : Nat → IV} {n : Nat} {w : World} {L : List PV} {ts : List TV} {A T : Option Addr} {cA cT : Nat} {S : Nat → Option Addr × Nat} (h : FM x g n w L ts A cA T cT S) {b : Nat} (hb : some b = obk A) : some b ≠ obk T := fun e => by
  obtain ⟨_, _, c1, h1⟩ := own_lt h.alo hb
  obtain ⟨_, _, c2, h2⟩ := own_lt h.teo e
  rw [h1] at h2
  injection h2 with h2
  injection h2 with _ h3
  exact absurd h3 (by decide)
theorem OwnC.kept {w w' : World} {base z n c : Nat} {E : TypeId} {A : Option Addr} {F : Nat → Value} (h : OwnC w base E z A n c F) (hk : ∀ b, some b = obk A → w'.heap[b]? = w.heap[b]?) : OwnC w' base E z A n c F := by
  obtain ⟨h1, h2⟩ := h
  refine ⟨h1, ?_⟩
  rcases h2 with h2 | ⟨gg, cap, cur, hv, hg, hh, r⟩
  · exact .inl h2
  · injection hv with e1 e2 e3
    subst e1 e3
    exact .inr ⟨gg, c, cur, rfl, hg, (hk gg rfl).trans hh, r⟩
theorem Cel.kept {w w' : World} {B B' z n c : Nat} {A : Option Addr} {F : Nat → Value} (h : Cel w B z A n c F) (hB : B ≤ B') (hk : ∀ b, some b = obk A → w'.heap[b]? = w.heap[b]?) : Cel w' B' z A n c F := by
  rcases h with h | ⟨ad, rfl, h1, h2, hc⟩
  · exact .inl h
  · refine .inr ⟨ad, rfl, h1, h2, fun j hj => ⟨Nat.lt_of_lt_of_le (hc j hj).1 hB, ?_⟩⟩
    have e : (ad.add j).block = ad.block := by unfold Addr.add; split <;> rfl
    rw [← (hc j hj).2]
    exact World.cell?_of_block (by rw [e]; exact hk ad.block rfl)
section
variable {x : Bxs} {g : Nat → IV} {n : Nat} {w w' : World} {L : List PV} {ts : List TV} {A T : Option Addr} {cA cT : Nat} {S : Nat → Option Addr × Nat}
/-- All blocks that there are stay as they are. -/
theorem FM.below (ho : x.ok) (h : FM x g n w L ts A cA T cT S) (hb : Below w.heap.size w w') : FM x g n w' L ts A cA T cT S := by
  have hlo := h.lo
  have hz := hb.size
  have hx : ∀ b, b < w.heap.size → w'.heap[b]? = w.heap[b]? := fun b hb2 => hb.block b hb2
  refine ⟨⟨by omega, by omega, by omega, by omega, by omega⟩, (hx _ h.lo.1).trans h.pl, fun i hi => (hb.cell (p := ⟨x.pb, i, none⟩) h.lo.2.2.2.2).trans (h.pc i hi), (hx _ h.lo.2.2.2.1).trans h.fo, (hx _ h.lo.2.1).trans h.al, h.alo.kept fun b e => hb.block b (own_lt h.alo e).2.1, h.ao, (hx _ h.lo.2.2.1).trans h.te, h.teo.kept fun b e => hb.block b (own_lt h.teo e).2.1, h.to_, fun i hi => ?_⟩
  obtain ⟨h1, h2⟩ := h.cl i hi
  exact ⟨h1.kept hb.size fun b e => hb.block b (h2 b e).2.1, fun b e => ⟨(h2 b e).1, Nat.lt_of_lt_of_le (h2 b e).2.1 hb.size, (h2 b e).2.2⟩⟩
theorem GKx.refl (x : Bxs) (A T : Option Addr) (w : World) : GKx x A T w w := ⟨rfl, rfl, rfl, Nat.le_refl _, fun _ _ _ _ _ _ => rfl⟩
theorem GKx.of_below (hb : Below w.heap.size w w') : GKx x A T w w' := ⟨hb.os, hb.tape, hb.output, hb.size, fun k hk _ _ _ _ => hb.block k hk⟩
/-- Two gatherings, one behind the other: the second one's rows are the first one's or new ones. -/
theorem GKx.trans {w'' : World} {A' T' : Option Addr} (h : GKx x A T w w') (hA : ∀ b, some b = obk A' → some b = obk A ∨ w.heap.size ≤ b) (hT : ∀ b, some b = obk T' → some b = obk T ∨ w.heap.size ≤ b) (k : GKx x A' T' w' w'') : GKx x A T w w'' :=
  ⟨k.os.trans h.os, k.tape.trans h.tape, k.output.trans h.output, Nat.le_trans h.size k.size, fun b hb h1 h2 h3 h4 => (k.block b (Nat.lt_of_lt_of_le hb h.size) h1 h2 (fun e => by
    rcases hA b e with e2 | e2
    · exact h3 e2
    · omega) (fun e => by
    rcases hT b e with e2 | e2
    · exact h4 e2
    · omega)).trans (h.block b hb h1 h2 h3 h4)⟩
theorem get_app {α : Type} [Inhabited α] (L : List α) (y : α) {i : Nat} (h : i < L.length) : (L ++ [y])[i]! = L[i]! := by
  rw [getElem!_pos (L ++ [y]) i (by simp; omega), getElem!_pos L i h, List.getElem_append_left h]
theorem get_last {α : Type} [Inhabited α] (L : List α) (y : α) : (L ++ [y])[L.length]! = y := by
  rw [getElem!_pos (L ++ [y]) L.length (by simp)]
  simp
/-- The paths' slices, one more. -/
def sAdd (S : Nat → Option Addr × Nat) (k : Nat) (c : Option Addr × Nat) : Nat → Option Addr × Nat := fun i => if i = k then c else S i
theorem pvcell_cat (L : List PV) (y : PV) (S : Nat → Option Addr × Nat) (c : Option Addr × Nat) : ∀ i, i < (L.length + 1) * 3 → catC (L.length * 3) (pvcell (fun i => L[i]!) S) (pvcell (fun _ => y) fun _ => c) i = pvcell (fun i => (L ++ [y])[i]!) (sAdd S L.length c) i := fun i hi => by
  unfold catC
  split
  · rename_i hl
    unfold pvcell sAdd
    dsimp only
    rw [get_app L y (show i / 3 < L.length by omega), if_neg (show ¬ i / 3 = L.length by omega)]
  · have h1 : i / 3 = L.length := by omega
    have h2 : (i - L.length * 3) % 3 = i % 3 := by omega
    unfold pvcell sAdd
    dsimp only
    rw [h1, h2, get_last, if_pos rfl]
theorem tscell_snoc (ts : List TV) (y : TV) : ∀ i, i < (ts.length + 1) * 5 → catC (ts.length * 5) (tscell fun i => ts[i]!) (tscell fun _ => y) i = tscell (fun i => (ts ++ [y])[i]!) i := fun i hi => by
  unfold catC
  split
  · unfold tscell
    dsimp only
    rw [get_app ts y (show i / 5 < ts.length by omega)]
  · have h1 : i / 5 = ts.length := by omega
    have h2 : (i - ts.length * 5) % 5 = i % 5 := by omega
    unfold tscell
    dsimp only
    rw [h1, h2, get_last]
/-- A path more. -/
theorem FM.push (ho : x.ok) (h : FM x g n w L ts A cA T cT S) {y : PV} {C : Option Addr} {cC base : Nat} (hC : OwnC w base 49 5 C y.ts.length cC (tscell fun i => y.ts[i]!))
    (hCd : ∀ b, some b = obk C → x.out b ∧ some b ≠ obk A ∧ some b ≠ obk T) {A' : Option Addr} {cA' : Nat} {w4 : World} (hA' : OwnC w4 0 40 3 A' (L.length + 1) cA' (pvcell (fun i => (L ++ [y])[i]!) (sAdd S L.length (C, cC))))
    (hg : w.grownBy w4 (obk A)) (hat : obk A' = obk A ∨ obk A' = some w.heap.size) :
    FM x g n (w4.setCell ⟨x.Al, 0, none⟩ (.slice A' (L.length + 1) cA')) (L ++ [y]) ts A' cA' T cT (sAdd S L.length (C, cC)) ∧ GKx x A T w (w4.setCell ⟨x.Al, 0, none⟩ (.slice A' (L.length + 1) cA')) := by
  have hlo := h.lo
  have hz : (w4.setCell ⟨x.Al, 0, none⟩ (.slice A' (L.length + 1) cA')).heap.size = w4.heap.size := by simp [World.setCell]
  have hkeep : ∀ k, k < w.heap.size → k ≠ x.Al → some k ≠ obk A → (w4.setCell ⟨x.Al, 0, none⟩ (.slice A' (L.length + 1) cA')).heap[k]? = w.heap[k]? := fun k hk h1 h2 => (Below.heap_setCell _ _ _ _ h1).trans (hg.block k hk h2)
  have hao' : ∀ b, some b = obk A' → x.out b := fun b e => by
    rcases hat with hat | hat
    · rw [hat] at e; exact h.ao b e
    · rw [hat] at e
      have e2 : b = w.heap.size := by injection e
      subst e2
      exact ⟨by omega, by omega, by omega, by omega, by omega⟩
  have hsz4 := hg.size
  have hal4 : RowAt w4 x.Al #[.slice A L.length cA] 25 := (hg.block x.Al h.lo.2.1 fun e => (h.ao _ e).2.1 rfl).trans h.al
  have hlen : (L ++ [y]).length = L.length + 1 := by simp
  refine ⟨⟨by rw [hz]; exact ⟨by omega, by omega, by omega, by omega, by omega⟩, (hkeep _ h.lo.1 ho.pa fun e => (h.ao _ e).1 rfl).trans h.pl, fun i hi => (World.cell?_of_block (w := w) (a := ⟨x.pb, i, none⟩) (hkeep _ h.lo.2.2.2.2 ho.ba fun e => (h.ao _ e).2.2.2.2 rfl)).trans (h.pc i hi), (hkeep _ h.lo.2.2.2.1 ho.fa fun e => (h.ao _ e).2.2.2.1 rfl).trans h.fo, ?_, ?_, hao', (hkeep _ h.lo.2.2.1 (Ne.symm ho.at_) fun e => (h.ao _ e).2.2.1 rfl).trans h.te, h.teo.kept fun b e => ?_, h.to_, fun i hi => ?_⟩, ⟨hg.os, hg.tape, hg.output, by rw [hz]; exact hg.size, fun k hk h1 h2 h3 h4 => hkeep k hk h1 h3⟩⟩
  · rw [hlen]
    exact hal4.set 0 _
  · rw [hlen]
    exact hA'.kept fun b e => Below.heap_setCell _ _ _ _ (by show b ≠ x.Al; exact (hao' b e).2.1)
  · obtain ⟨e1, e2, _⟩ := own_lt h.teo e
    exact hkeep b e2 (h.to_ b e).2.1 fun e3 => h.apart e3 e
  · rw [hlen] at hi
    by_cases hil : i < L.length
    · rw [get_app L y hil]
      have hs : sAdd S L.length (C, cC) i = S i := by unfold sAdd; rw [if_neg (by omega)]
      rw [hs]
      obtain ⟨h1, h2⟩ := h.cl i hil
      refine ⟨h1.kept (by rw [hz]; exact hg.size) fun b e => ?_, fun b e => ?_⟩
      · obtain ⟨e1, e2, e3, _⟩ := h2 b e
        exact hkeep b e2 e1.2.1 e3
      · obtain ⟨e1, e2, e3, e4⟩ := h2 b e
        refine ⟨e1, by rw [hz]; exact Nat.lt_of_lt_of_le e2 hg.size, fun e5 => ?_, e4⟩
        rcases hat with hat | hat
        · rw [hat] at e5; exact e3 e5
        · rw [hat] at e5
          have : b = w.heap.size := by injection e5
          omega
    · obtain rfl : i = L.length := by omega
      rw [get_last]
      have hs : sAdd S L.length (C, cC) L.length = (C, cC) := by unfold sAdd; rw [if_pos rfl]
      rw [hs]
      refine ⟨hC.cel.kept (by rw [hz]; exact hg.size) fun b e => ?_, fun b e => ?_⟩
      · obtain ⟨e1, e3, _⟩ := hCd b e
        exact hkeep b (own_lt hC e).2.1 e1.2.1 e3
      · obtain ⟨e1, e3, e4⟩ := hCd b e
        have e2 := (own_lt hC e).2.1
        refine ⟨e1, by rw [hz]; exact Nat.lt_of_lt_of_le e2 hg.size, fun e5 => ?_, e4⟩
        rcases hat with hat | hat
        · rw [hat] at e5; exact e3 e5
        · rw [hat] at e5
          have : b = w.heap.size := by injection e5
          omega
/-- A test more. -/
theorem FM.tpush (ho : x.ok) (h : FM x g n w L ts A cA T cT S) {y : TV} {T' : Option Addr} {cT' : Nat} {w4 : World} (hT' : OwnC w4 0 49 5 T' (ts.length + 1) cT' (tscell fun i => (ts ++ [y])[i]!))
    (hg : w.grownBy w4 (obk T)) (hat : obk T' = obk T ∨ obk T' = some w.heap.size) :
    FM x g n (w4.setCell ⟨x.Te, 0, none⟩ (.slice T' (ts.length + 1) cT')) L (ts ++ [y]) A cA T' cT' S ∧ GKx x A T w (w4.setCell ⟨x.Te, 0, none⟩ (.slice T' (ts.length + 1) cT')) := by
  have hlo := h.lo
  have hz : (w4.setCell ⟨x.Te, 0, none⟩ (.slice T' (ts.length + 1) cT')).heap.size = w4.heap.size := by simp [World.setCell]
  have hkeep : ∀ k, k < w.heap.size → k ≠ x.Te → some k ≠ obk T → (w4.setCell ⟨x.Te, 0, none⟩ (.slice T' (ts.length + 1) cT')).heap[k]? = w.heap[k]? := fun k hk h1 h2 => (Below.heap_setCell _ _ _ _ h1).trans (hg.block k hk h2)
  have hto' : ∀ b, some b = obk T' → x.out b := fun b e => by
    rcases hat with hat | hat
    · rw [hat] at e; exact h.to_ b e
    · rw [hat] at e
      have e2 : b = w.heap.size := by injection e
      subst e2
      exact ⟨by omega, by omega, by omega, by omega, by omega⟩
  have hsz4 := hg.size
  have hte4 : RowAt w4 x.Te #[.slice T ts.length cT] 38 := (hg.block x.Te h.lo.2.2.1 fun e => (h.to_ _ e).2.2.1 rfl).trans h.te
  have hlen : (ts ++ [y]).length = ts.length + 1 := by simp
  refine ⟨⟨by rw [hz]; exact ⟨by omega, by omega, by omega, by omega, by omega⟩, (hkeep _ h.lo.1 ho.pt fun e => (h.to_ _ e).1 rfl).trans h.pl, fun i hi => (World.cell?_of_block (w := w) (a := ⟨x.pb, i, none⟩) (hkeep _ h.lo.2.2.2.2 ho.bt fun e => (h.to_ _ e).2.2.2.2 rfl)).trans (h.pc i hi), (hkeep _ h.lo.2.2.2.1 ho.ft fun e => (h.to_ _ e).2.2.2.1 rfl).trans h.fo, (hkeep _ h.lo.2.1 ho.at_ fun e => (h.to_ _ e).2.1 rfl).trans h.al, h.alo.kept fun b e => ?_, h.ao, ?_, ?_, hto', fun i hi => ?_⟩, ⟨hg.os, hg.tape, hg.output, by rw [hz]; exact hg.size, fun k hk h1 h2 h3 h4 => hkeep k hk h2 h4⟩⟩
  · obtain ⟨e1, e2, _⟩ := own_lt h.alo e
    exact hkeep b e2 (h.ao b e).2.2.1 (h.apart e)
  · rw [hlen]
    exact hte4.set 0 _
  · rw [hlen]
    exact hT'.kept fun b e => Below.heap_setCell _ _ _ _ (by show b ≠ x.Te; exact (hto' b e).2.2.1)
  · obtain ⟨h1, h2⟩ := h.cl i hi
    refine ⟨h1.kept (by rw [hz]; exact hg.size) fun b e => ?_, fun b e => ?_⟩
    · obtain ⟨e1, e2, _, e4⟩ := h2 b e
      exact hkeep b e2 e1.2.2.1 e4
    · obtain ⟨e1, e2, e3, e4⟩ := h2 b e
      refine ⟨e1, by rw [hz]; exact Nat.lt_of_lt_of_le e2 hg.size, e3, fun e5 => ?_⟩
      rcases hat with hat | hat
      · rw [hat] at e5; exact e4 e5
      · rw [hat] at e5
        have : b = w.heap.size := by injection e5
        omega
/-- A test less. -/
theorem FM.tpop (ho : x.ok) {y : TV} (h : FM x g n w L (ts ++ [y]) A cA T cT S) :
    FM x g n (w.setCell ⟨x.Te, 0, none⟩ (.slice T ts.length cT)) L ts A cA T cT S ∧ GKx x A T w (w.setCell ⟨x.Te, 0, none⟩ (.slice T ts.length cT)) := by
  have hlo := h.lo
  have hz : (w.setCell ⟨x.Te, 0, none⟩ (.slice T ts.length cT)).heap.size = w.heap.size := by simp [World.setCell]
  have hkeep : ∀ k, k ≠ x.Te → (w.setCell ⟨x.Te, 0, none⟩ (.slice T ts.length cT)).heap[k]? = w.heap[k]? := fun k h1 => Below.heap_setCell _ _ _ _ h1
  refine ⟨⟨by rw [hz]; exact hlo, (hkeep _ ho.pt).trans h.pl, fun i hi => (World.cell?_of_block (w := w) (a := ⟨x.pb, i, none⟩) (hkeep _ ho.bt)).trans (h.pc i hi), (hkeep _ ho.ft).trans h.fo, (hkeep _ ho.at_).trans h.al, h.alo.kept fun b e => hkeep b (h.ao b e).2.2.1, h.ao, h.te.set 0 _, ?_, h.to_, fun i hi => ?_⟩, ⟨rfl, rfl, rfl, by rw [hz]; exact Nat.le_refl _, fun k hk h1 h2 h3 h4 => hkeep k h2⟩⟩
  · have h1 := h.teo.short (k := ts.length) (by simp)
    refine (h1.congr fun i hi => ?_).kept fun b e => hkeep b (h.to_ b e).2.2.1
    unfold tscell
    dsimp only
    rw [get_app ts y (show i / 5 < ts.length by omega)]
  · obtain ⟨h1, h2⟩ := h.cl i hi
    refine ⟨h1.kept (by rw [hz]; exact Nat.le_refl _) fun b e => hkeep b (h2 b e).1.2.2.1, fun b e => ?_⟩
    rw [hz]
    exact h2 b e
end
/-- What a gathering that began at w, with the paths L (their slices S) and the rows A and T, has come to. -/
structure GS (x : Bxs) (g : Nat → IV) (n : Nat) (w : World) (L : List PV) (A T : Option Addr) (S : Nat → Option Addr × Nat) (w1 : World) (L1 : List PV) (ts1 : List TV) (A1 : Option Addr) (cA1 : Nat) (T1 : Option Addr) (cT1 : Nat) (S1 : Nat → Option Addr × Nat) : Prop where
  fm : FM x g n w1 L1 ts1 A1 cA1 T1 cT1 S1
  gk : GKx x A T w w1
  na : ∀ b, some b = obk A1 → some b = obk A ∨ w.heap.size ≤ b
  nt : ∀ b, some b = obk T1 → some b = obk T ∨ w.heap.size ≤ b
  nc : ∀ i, i < L1.length → ∀ b, some b = obk (S1 i).1 → (∃ j, j < L.length ∧ some b = obk (S j).1) ∨ w.heap.size ≤ b
section
variable {x : Bxs} {g : Nat → IV} {n : Nat} {w w1 w2 : World} {L L1 L2 : List PV} {ts ts1 ts2 : List TV} {A T A1 T1 A2 T2 : Option Addr} {cA cT cA1 cT1 cA2 cT2 : Nat} {S S1 S2 : Nat → Option Addr × Nat}
theorem GS.of (h : FM x g n w L ts A cA T cT S) : GS x g n w L A T S w L ts A cA T cT S := ⟨h, GKx.refl _ _ _ _, fun _ e => .inl e, fun _ e => .inl e, fun i hi b e => .inl ⟨i, hi, e⟩⟩
theorem GS.trans (h : GS x g n w L A T S w1 L1 ts1 A1 cA1 T1 cT1 S1) (k : GS x g n w1 L1 A1 T1 S1 w2 L2 ts2 A2 cA2 T2 cT2 S2) : GS x g n w L A T S w2 L2 ts2 A2 cA2 T2 cT2 S2 :=
  ⟨k.fm, h.gk.trans h.na h.nt k.gk, fun b e => (k.na b e).elim (fun e2 => h.na b e2) fun e2 => .inr (Nat.le_trans h.gk.size e2), fun b e => (k.nt b e).elim (fun e2 => h.nt b e2) fun e2 => .inr (Nat.le_trans h.gk.size e2),
    fun i hi b e => (k.nc i hi b e).elim (fun ⟨j, hj, e2⟩ => h.nc j hj b e2) fun e2 => .inr (Nat.le_trans h.gk.size e2)⟩
theorem GS.below (ho : x.ok) (h : GS x g n w L A T S w1 L1 ts1 A1 cA1 T1 cT1 S1) (hb : Below w1.heap.size w1 w2) : GS x g n w L A T S w2 L1 ts1 A1 cA1 T1 cT1 S1 :=
  ⟨h.fm.below ho hb, h.gk.trans h.na h.nt (GKx.of_below hb), h.na, h.nt, h.nc⟩
/-- What is not one of the rows, nor a box of theirs, is kept. -/
theorem GS.row (h : GS x g n w L A T S w1 L1 ts1 A1 cA1 T1 cT1 S1) {b : Nat} {cs : Array Value} {E : TypeId} (hr : RowAt w b cs E) (h1 : b ≠ x.Al) (h2 : b ≠ x.Te) (h3 : some b ≠ obk A) (h4 : some b ≠ obk T) : RowAt w1 b cs E :=
  (h.gk.block b (Array.getElem?_eq_some_iff.1 hr).1 h1 h2 h3 h4).trans hr
/-- A store beside. -/
theorem GS.aside (ho : x.ok) (h : GS x g n w L A T S w1 L1 ts1 A1 cA1 T1 cT1 S1) {X : Nat} (hX : w.heap.size ≤ X) (hlo : x.out X) (hA : some X ≠ obk A1) (hT : some X ≠ obk T1) (hC : ∀ i, i < L1.length → some X ≠ obk (S1 i).1) (j : Nat) (v : Value) :
    GS x g n w L A T S (w1.setCell ⟨X, j, none⟩ v) L1 ts1 A1 cA1 T1 cT1 S1 := by
  have hz : (w1.setCell ⟨X, j, none⟩ v).heap.size = w1.heap.size := by simp [World.setCell]
  have hk : ∀ b, b ≠ X → (w1.setCell ⟨X, j, none⟩ v).heap[b]? = w1.heap[b]? := fun b hb => Below.heap_setCell _ _ _ _ hb
  obtain ⟨o1, o2, o3, o4, o5⟩ := hlo
  refine ⟨⟨by rw [hz]; exact h.fm.lo, (hk _ (Ne.symm o1)).trans h.fm.pl, fun i hi => (World.cell?_of_block (w := w1) (a := ⟨x.pb, i, none⟩) (hk _ (Ne.symm o5))).trans (h.fm.pc i hi), (hk _ (Ne.symm o4)).trans h.fm.fo, (hk _ (Ne.symm o2)).trans h.fm.al, h.fm.alo.kept fun b e => hk b fun e2 => hA (e2 ▸ e), h.fm.ao, (hk _ (Ne.symm o3)).trans h.fm.te, h.fm.teo.kept fun b e => hk b fun e2 => hT (e2 ▸ e), h.fm.to_, fun i hi => ?_⟩, ⟨h.gk.os, h.gk.tape, h.gk.output, by rw [hz]; exact h.gk.size, fun k hk2 h1 h2 h3 h4 => (hk k (by omega)).trans (h.gk.block k hk2 h1 h2 h3 h4)⟩, h.na, h.nt, h.nc⟩
  obtain ⟨h1, h2⟩ := h.fm.cl i hi
  refine ⟨h1.kept (by rw [hz]; exact Nat.le_refl _) fun b e => hk b fun e2 => hC i hi (e2 ▸ e), fun b e => ?_⟩
  rw [hz]
  exact h2 b e
end
/-- What the closure does from an instruction on, m at most behind it. -/
def FolI (x : Bxs) (g : Nat → IV) (n m : Nat) : Prop := ∀ (i : Nat), n - i ≤ m → i < n → ∀ (p q : Nat) (d : Int) (kk : Nat) (b : Bool) (s : Nat) (w : World) (L : List PV) (ts : List TV) (A : Option Addr) (cA : Nat) (T : Option Addr) (cT : Nat) (S : Nat → Option Addr × Nat),
  FM x g n w L ts A cA T cT S → p < 4294967296 → q < 4294967296 → kk < 4294967296 → s + (n - i) ≤ 100000 → ts.length + (n - i) ≤ 10000 → L.length + (pF g m i p q ts s).length ≤ 100000 →
  Calls Try.prog 36 #[.int .i64 i, .int .i64 s, .agg #[.int .i64 p, .int .u32 q, .int .i64 d, .int .u32 kk, .bool b], .pointer (some ⟨x.P, 0, none⟩), .pointer (some ⟨x.Al, 0, none⟩), .pointer (some ⟨x.Te, 0, none⟩), .pointer (some ⟨x.Fo, 0, none⟩)] w fun e w' => e = .returned (.tuple #[]) ∧ ∃ A' cA' T' cT' S', GS x g n w L A T S w' (L ++ pF g m i p q ts s) ts A' cA' T' cT' S'
end Go.Proofs.Ytgndfcjfajnemaa
