/-
  Layer 27: paths as numbers; a copy of tests; memory while paths are gathered.
-/
import Derived.Test.YtmndolojfdekdaaWyd
import Derived.Test.YtmndolojfdekdaaWyt
import Derived.Lib.AppendZerosOnto
import Derived.Test.YtmndolojfdekdaaMem
import Derived.Maps.AppendAt
import Derived.Test.YtmndolojfdekdaaAsE
import Derived.Laws.BitsAllLaws
namespace Go.Proofs.Ytmndolojfdekdaa
open Go.RowKit Go.Shelf
set_option linter.unusedVariables false

theorem infoTst : (Try.prog.info? 106).map (fun i => (i.zero, i.size, i.bytes)) = some (some (.agg #[.int .i64 0, .int .u32 0, .int .i64 0, .int .u32 0, .bool false]), 5, 32) := by kernel_rfl
set_option maxRecDepth 100000 in
set_option maxHeartbeats 1000000 in
theorem cloneT_any (A : Option Addr) (n c : Nat) (G : Nat → TV) (w : World) (hn : n ≤ 1000000) (hr : Cel w w.heap.size 5 A n c (tscell G)) :
    Calls Try.prog 71 #[.slice A n c] w fun e w' => ∃ A' c', e = .returned (.slice A' n c') ∧ OwnC w' w.heap.size 106 5 A' n c' (tscell G) ∧ Below w.heap.size w w' := by
  have hr0 := hr
  rcases hr with ⟨rfl, rfl, rfl⟩ | ⟨ad, rfl, _⟩
  · have hnil := fun W => Lib.run_eql_slice_nil (P := Try.prog) W 54 106 none 0 0 0 0 Try.underlying54
    go_enter Try.func71, Try.ntmps71
    go_wp2
    go_ret
    exact ⟨_, _, rfl, OwnC.nil_, Below.refl _ _⟩
  · have hnil := fun W => Lib.run_eql_slice_nil (P := Try.prog) W 54 106 (some ad) n c 0 0 Try.underlying54
    have hown : OwnC (w.alloc (.cells #[] 106)) w.heap.size 106 5 (some ⟨w.heap.size, 0, none⟩) 0 0 (tscell G) := by
      have := World.ownsRow_lit (base := w.heap.size) (e := 106) (size := 5) w #[] 0 (Nat.le_refl _) (by decide) rfl
      unfold OwnC
      simpa using this
    go_enter Try.func71, Try.ntmps71
    go_wp2_with (at_builtin; go_must (refine app_cells _ rfl _ _ _ 106 rfl Try.underlying54 infoTst rfl (by decide) rfl hown rfl (hr0.below ((Below.refl _ _).alloc (Nat.le_refl _) _)) (fun i _ => tscell_one _ i) (by unfold maxLen; omega) (by omega) (by simp) n (by omega) (tscell G) (fun i _ => by unfold catC; rw [if_neg (by omega)]; simp) ?_; rintro A2 c2 w2 hown2 hB2))
    go_ret
    exact ⟨_, _, rfl, hown2, ((Below.refl _ _).alloc (Nat.le_refl _) _).trans hB2⟩
/-- The first ones of a row of the call's own. -/
theorem OwnC.short {w : World} {base z n c k : Nat} {E : TypeId} {A : Option Addr} {F : Nat → Value} (h : OwnC w base E z A n c F) (hk : k ≤ n) : OwnC w base E z A k c F := by
  obtain ⟨h1, h2⟩ := h
  refine ⟨by simp, ?_⟩
  rcases h2 with ⟨hv, h0⟩ | ⟨gg, cap, cur, hv, hg, hh, h3, h4, h5, h6⟩
  · injection hv with e1 e2 e3
    subst e1 e3
    have : k = 0 := by omega
    subst this
    exact .inl ⟨rfl, rfl⟩
  · injection hv with e1 e2 e3
    subst e1 e3
    refine .inr ⟨gg, c, cur, rfl, hg, hh, by omega, h4, h5, ?_⟩
    have hle : k * z ≤ n * z := Nat.mul_le_mul_right _ hk
    have : cur.toList.take (k * z) = (cur.toList.take (n * z)).take (k * z) := by rw [List.take_take, Nat.min_eq_left hle]
    rw [this, h6, ← List.map_take, List.take_range, Nat.min_eq_left hle]
/-- A path as numbers. -/
structure PV where
  ts : List TV
  st : Nat
  v : Nat
instance : Inhabited PV := ⟨⟨[], 0, 0⟩⟩
/-- All paths from an instruction on, with the word that is in A, behind tests and steps. -/
def pF (g : Nat → IV) : Nat → Nat → Nat → Nat → List TV → Nat → List PV
  | 0, _, _, _, _, _ => []
  | m + 1, i, p, q, ts, s =>
    if kd (g i) = 14 then [⟨ts, s + 1, (g i).k⟩]
    else if brK (kd (g i)) = true then
      pF g m (i + 1 + (g i).t) p q (ts ++ [⟨(p : Int), q, kd (g i), (g i).k, true⟩]) (s + 1) ++ pF g m (i + 1 + (g i).f) p q (ts ++ [⟨(p : Int), q, kd (g i), (g i).k, false⟩]) (s + 1)
    else if kd (g i) = 13 then pF g m (i + 1 + (g i).k) p q ts (s + 1)
    else if kd (g i) = 1 then pF g m (i + 1) (g i).k 4294967295 ts (s + 1)
    else pF g m (i + 1) p (q &&& (g i).k) ts (s + 1)
/-- A path's cells: its tests' slice, its steps, its value. -/
def pvcell (L : Nat → PV) (S : Nat → Option Addr × Nat) (i : Nat) : Value := if i % 3 = 0 then .slice (S (i / 3)).1 (L (i / 3)).ts.length (S (i / 3)).2 else if i % 3 = 1 then .int .i64 ((L (i / 3)).st : Nat) else .int .u32 ((L (i / 3)).v : Nat)
theorem pvcell_one (L : Nat → PV) (S : Nat → Option Addr × Nat) (i : Nat) : (pvcell L S i).oneCell' = true := by
  unfold pvcell; split
  · rfl
  · split <;> rfl
theorem infoPv : (Try.prog.info? 56).map (fun i => (i.zero, i.size, i.bytes)) = some (some (.agg #[.slice none 0 0, .int .i64 0, .int .u32 0]), 3, 40) := by kernel_rfl
def blkOf (A : Option Addr) (b : Nat) : Prop := ∃ o, A = some o ∧ o.block = b
/-- What lay is kept, but for two boxes and two rows. -/
structure GK (Al Te : Nat) (A T : Option Addr) (w w' : World) : Prop where
  os : w'.os = w.os
  tape : w'.tape = w.tape
  output : w'.output = w.output
  size : w.heap.size ≤ w'.heap.size
  block : ∀ k, k < w.heap.size → k ≠ Al → k ≠ Te → ¬ blkOf A k → ¬ blkOf T k → w'.heap[k]? = w.heap[k]?
end Go.Proofs.Ytmndolojfdekdaa

/-
  An append onto a row of the call's own, told exactly: one block changes, and the row lies where it lay or in a new block. (No program's words.)
-/
namespace Go.Proofs.Ytmndolojfdekdaa
open Go.RowKit
set_option linter.unusedVariables false

/-- append onto a row of the call's own, of elements that a slice holds, a nil one too. -/
theorem wp_cellsA {P : Program} (w : World) {o : Oper} {a : Act} {K : Act → World → Prop} {Q : Exit → Act → World → Prop} (s x : Operand) (t E : TypeId)
    (ho : o.op = .call { callee := .builtin .append, args := #[s, x], argTypes := #[t, t] })
    (ht : P.underlying t = some (.slice E)) {zv : Value} {z by_ : Nat} (hinfo : (P.info? E).map (fun i => (i.zero, i.size, i.bytes)) = some (some zv, z, by_)) (hzs : zv.cells.size = z) (hz : 0 < z)
    {base n c m d : Nat} {A C : Option Addr} {F G : Nat → Value} (hs : a.eval s = .slice A n c) (hown : OwnC w base E z A n c F) (hx : a.eval x = .slice C m d) {B : Nat} (hr : Cel w B z C m d G) (h1c : ∀ i, i < m * z → (G i).oneCell' = true)
    (hn : n + m ≤ maxLen) (hby : (n + m) * by_ ≤ 140737488355328) (hbase : base ≤ w.heap.size)
    (h : ∀ A' c' w', OwnC w' base E z A' (n + m) c' (catC (n * z) F G) → w.grownBy w' (Value.slice A n c).ownBlock → ((Value.slice A' (n + m) c').ownBlock = (Value.slice A n c).ownBlock ∨ (Value.slice A' (n + m) c').ownBlock = some w.heap.size) → K (a.put o.dst (.slice A' (n + m) c')) w') : o.wp P a w K Q := by
  obtain ⟨i0, hi, hz0, hz1, hz2⟩ := info_parts hinfo
  have hcat : ((List.range ((n + m) * z)).map (catC (n * z) F G)) = ((List.range (n * z)).map F) ++ ((List.range (m * z)).map G) := by
    rw [Nat.add_mul, List.range_add, List.map_append, List.map_map]
    congr 1
    · exact List.map_congr_left (fun i hi => by simp [catC, List.mem_range.1 hi])
    · exact List.map_congr_left (fun i _ => by show catC (n * z) F G (n * z + i) = G i; unfold catC; rw [if_neg (by omega), Nat.add_sub_cancel_left])
  rcases hr with ⟨rfl, rfl, rfl⟩ | ⟨ad, rfl, h1, h2, hc⟩
  · have hrun := run_append_owned_none (P := P) (w := w) base t o.type E i0 z ht hi (.slice A n c) n _ hown
    have hK := h A c w (by unfold OwnC; rw [hcat]; simp only [Nat.zero_mul, List.range_zero, List.map_nil, List.append_nil, Nat.add_zero]; exact hown) (World.grownBy.refl _ _) (.inl rfl)
    unfold Oper.wp execOp
    simp only [ho, resolve, invoke, builtin, Sem.run_bind, Sem.run_pure, Result.andThen_ok, List.map_toArray, List.map_cons, List.map_nil, hs, hx, hrun]
    exact hK
  · obtain ⟨v', w', hr, h2', h3', h4', h5'⟩ := run_append_own_at (P := P) w base t o.type E i0 _ z by_ ht hi hz0 hz1 hz2 hzs hz (.slice A n c) n _ hown ad m d ((List.range (m * z)).map G) (by simp) (fun j u hu => by
      have hj : j < m * z := by
        rcases Nat.lt_or_ge j (m * z) with h | h
        · exact h
        · rw [List.getElem?_eq_none (by simpa using h)] at hu; cases hu
      rw [(hc j hj).2]; rw [← hu]; simp [hj]) (fun u hu => by
      obtain ⟨i, hi, rfl⟩ := List.mem_map.1 hu
      exact h1c i (List.mem_range.1 hi)) hn hby hbase
    rw [← hcat] at h2'
    rcases ownsRow_parts h2' with ⟨A', c', rfl⟩
    unfold Oper.wp execOp
    simp only [ho, resolve, invoke, builtin, Sem.run_bind, Sem.run_pure, Result.andThen_ok, List.map_toArray, List.map_cons, List.map_nil, hs, hx, hr]
    exact h A' c' w' h2' h3' h5'
theorem app_cellsA {P : Program} (w : World) {ops : Array Oper} {rest : List Oper} {o : Oper} {a : Act} {Q : Exit → Act → World → Prop} (hgd : o.guard = none) (s x : Operand) (t E : TypeId)
    (ho : o.op = .call { callee := .builtin .append, args := #[s, x], argTypes := #[t, t] })
    (ht : P.underlying t = some (.slice E)) {zv : Value} {z by_ : Nat} (hinfo : (P.info? E).map (fun i => (i.zero, i.size, i.bytes)) = some (some zv, z, by_)) (hzs : zv.cells.size = z) (hz : 0 < z)
    {base n c m d : Nat} {A C : Option Addr} {F G : Nat → Value} (hs : a.eval s = .slice A n c) (hown : OwnC w base E z A n c F) (hx : a.eval x = .slice C m d) {B : Nat} (hr : Cel w B z C m d G) (h1c : ∀ i, i < m * z → (G i).oneCell' = true)
    (hn : n + m ≤ maxLen) (hby : (n + m) * by_ ≤ 140737488355328) (hbase : base ≤ w.heap.size) (N : Nat) (hN : n + m = N) (H : Nat → Value) (hH : ∀ i, i < N * z → catC (n * z) F G i = H i)
    (h : ∀ A' c' w', OwnC w' base E z A' N c' H → w.grownBy w' (Value.slice A n c).ownBlock → ((Value.slice A' N c').ownBlock = (Value.slice A n c).ownBlock ∨ (Value.slice A' N c').ownBlock = some w.heap.size) → wpList P ops Q rest (a.put o.dst (.slice A' N c')) w') : wpList P ops Q (o :: rest) a w := by
  subst hN
  exact wpList_plain hgd fun _ hK => wp_cellsA w s x t E ho ht hinfo hzs hz hs hown hx hr h1c hn hby hbase fun A' c' w' h1 h2 h3 => hK _ _ (h A' c' w' (h1.congr hH) h2 h3)
theorem step_cellsA {P : Program} {w : World} {ops : Array Oper} {o : Oper} {a : Act} {K : Act → World → Prop} {Q : Exit → Act → World → Prop} {R : Prop} (hgd : o.guard = none) (s x : Operand) (t E : TypeId)
    (ho : o.op = .call { callee := .builtin .append, args := #[s, x], argTypes := #[t, t] })
    (ht : P.underlying t = some (.slice E)) {zv : Value} {z by_ : Nat} (hinfo : (P.info? E).map (fun i => (i.zero, i.size, i.bytes)) = some (some zv, z, by_)) (hzs : zv.cells.size = z) (hz : 0 < z)
    {base n c m d : Nat} {A C : Option Addr} {F G : Nat → Value} (hs : a.eval s = .slice A n c) (hown : OwnC w base E z A n c F) (hx : a.eval x = .slice C m d) {B : Nat} (hr : Cel w B z C m d G) (h1c : ∀ i, i < m * z → (G i).oneCell' = true)
    (hn : n + m ≤ maxLen) (hby : (n + m) * by_ ≤ 140737488355328) (hbase : base ≤ w.heap.size) (N : Nat) (hN : n + m = N) (H : Nat → Value) (hH : ∀ i, i < N * z → catC (n * z) F G i = H i)
    (h : ∀ A' c' w', OwnC w' base E z A' N c' H → w.grownBy w' (Value.slice A n c).ownBlock → ((Value.slice A' N c').ownBlock = (Value.slice A n c).ownBlock ∨ (Value.slice A' N c').ownBlock = some w.heap.size) → K (a.put o.dst (.slice A' N c')) w') :
    if Region.wanted o (yielded ops a.tmps) = true then Oper.wp P o a w K Q else R := by
  subst hN
  have hw : Region.wanted o (yielded ops a.tmps) = true := by simp [Region.wanted, hgd]
  rw [if_pos hw]
  exact wp_cellsA w s x t E ho ht hinfo hzs hz hs hown hx hr h1c hn hby hbase fun A' c' w' h1 h2 h3 => h A' c' w' (h1.congr hH) h2 h3
end Go.Proofs.Ytmndolojfdekdaa

/-
  Layer 27: memory while paths are gathered: what is kept, a path more, a test more, a test less. (No walk.)
-/
namespace Go.Proofs.Ytmndolojfdekdaa
open Go.RowKit Go.Shelf
set_option linter.unusedVariables false

def obk (A : Option Addr) : Option Nat := A.map (·.block)
theorem own_obk (A : Option Addr) (n c : Nat) : (Value.slice A n c).ownBlock = obk A := by cases A <;> rfl
/-- Where the boxes lie. -/
structure Bxs where
  P : Nat
  Al : Nat
  Te : Nat
  Fo : Nat
  pb : Nat
/-- None of them. -/
def Bxs.out (x : Bxs) (b : Nat) : Prop := b ≠ x.P ∧ b ≠ x.Al ∧ b ≠ x.Te ∧ b ≠ x.Fo ∧ b ≠ x.pb
structure Bxs.ok (x : Bxs) : Prop where
  pa : x.P ≠ x.Al
  pt : x.P ≠ x.Te
  fa : x.Fo ≠ x.Al
  ft : x.Fo ≠ x.Te
  ba : x.pb ≠ x.Al
  bt : x.pb ≠ x.Te
  at_ : x.Al ≠ x.Te
def follV (x : Bxs) : Value := .func (.func 70) #[] #[.pointer (some ⟨x.P, 0, none⟩), .pointer (some ⟨x.Al, 0, none⟩), .pointer (some ⟨x.Te, 0, none⟩), .pointer (some ⟨x.Fo, 0, none⟩)]
/-- What lies in memory while paths are gathered. -/
structure FM (x : Bxs) (g : Nat → IV) (n : Nat) (w : World) (L : List PV) (ts : List TV) (A : Option Addr) (cA : Nat) (T : Option Addr) (cT : Nat) (S : Nat → Option Addr × Nat) : Prop where
  lo : x.P < w.heap.size ∧ x.Al < w.heap.size ∧ x.Te < w.heap.size ∧ x.Fo < w.heap.size ∧ x.pb < w.heap.size
  pl : RowAt w x.P #[.slice (some ⟨x.pb, 0, none⟩) n n] 101
  pc : ∀ i, i < n * 6 → w.cell? ⟨x.pb, i, none⟩ = some (fcell g i)
  fo : RowAt w x.Fo #[follV x] 138
  al : RowAt w x.Al #[.slice A L.length cA] 45
  alo : OwnC w 0 56 3 A L.length cA (pvcell (fun i => L[i]!) S)
  ao : ∀ b, some b = obk A → x.out b
  te : RowAt w x.Te #[.slice T ts.length cT] 54
  teo : OwnC w 0 106 5 T ts.length cT (tscell fun i => ts[i]!)
  to_ : ∀ b, some b = obk T → x.out b
  cl : ∀ i, i < L.length → Cel w w.heap.size 5 (S i).1 (L[i]!).ts.length (S i).2 (tscell fun j => (L[i]!).ts[j]!) ∧ ∀ b, some b = obk (S i).1 → x.out b ∧ b < w.heap.size ∧ some b ≠ obk A ∧ some b ≠ obk T
/-- What is kept over a gathering. -/
structure GKx (x : Bxs) (A T : Option Addr) (w w' : World) : Prop where
  os : w'.os = w.os
  tape : w'.tape = w.tape
  output : w'.output = w.output
  size : w.heap.size ≤ w'.heap.size
  block : ∀ k, k < w.heap.size → k ≠ x.Al → k ≠ x.Te → some k ≠ obk A → some k ≠ obk T → w'.heap[k]? = w.heap[k]?
theorem own_lt {w : World} {base z n c : Nat} {E : TypeId} {A : Option Addr} {F : Nat → Value} (h : OwnC w base E z A n c F) {b : Nat} (hb : some b = obk A) : base ≤ b ∧ b < w.heap.size ∧ ∃ cur, w.heap[b]? = some (.cells cur E) := by
  rcases h.2 with ⟨hv, _⟩ | ⟨gg, cap, cur, hv, hg, hh, _⟩
  · injection hv with e1
    rw [e1] at hb
    cases hb
  · injection hv with e1
    rw [e1] at hb
    have e2 : b = gg := by injection hb
    subst e2
    exact ⟨hg, (Array.getElem?_eq_some_iff.1 hh).1, cur, hh⟩
/-- The rows of all and of tests are two. -/
theorem FM.apart {x : Bxs} {g : Nat → IV} {n : Nat} {w : World} {L : List PV} {ts : List TV} {A T : Option Addr} {cA cT : Nat} {S : Nat → Option Addr × Nat} (h : FM x g n w L ts A cA T cT S) {b : Nat} (hb : some b = obk A) : some b ≠ obk T := fun e => by
  obtain ⟨_, _, c1, h1⟩ := own_lt h.alo hb
  obtain ⟨_, _, c2, h2⟩ := own_lt h.teo e
  rw [h1] at h2
  injection h2 with h2
  injection h2 with _ h3
  exact absurd h3 (by decide)
theorem OwnC.kept {w w' : World} {base z n c : Nat} {E : TypeId} {A : Option Addr} {F : Nat → Value} (h : OwnC w base E z A n c F) (hk : ∀ b, some b = obk A → w'.heap[b]? = w.heap[b]?) : OwnC w' base E z A n c F := by
  obtain ⟨h1, h2⟩ := h
  refine ⟨h1, ?_⟩
  rcases h2 with h2 | ⟨gg, cap, cur, hv, hg, hh, r⟩
  · exact .inl h2
  · injection hv with e1 e2 e3
    subst e1 e3
    exact .inr ⟨gg, c, cur, rfl, hg, (hk gg rfl).trans hh, r⟩
theorem Cel.kept {w w' : World} {B B' z n c : Nat} {A : Option Addr} {F : Nat → Value} (h : Cel w B z A n c F) (hB : B ≤ B') (hk : ∀ b, some b = obk A → w'.heap[b]? = w.heap[b]?) : Cel w' B' z A n c F := by
  rcases h with h | ⟨ad, rfl, h1, h2, hc⟩
  · exact .inl h
  · refine .inr ⟨ad, rfl, h1, h2, fun j hj => ⟨Nat.lt_of_lt_of_le (hc j hj).1 hB, ?_⟩⟩
    have e : (ad.add j).block = ad.block := by unfold Addr.add; split <;> rfl
    rw [← (hc j hj).2]
    exact World.cell?_of_block (by rw [e]; exact hk ad.block rfl)
section
variable {x : Bxs} {g : Nat → IV} {n : Nat} {w w' : World} {L : List PV} {ts : List TV} {A T : Option Addr} {cA cT : Nat} {S : Nat → Option Addr × Nat}
/-- All blocks that there are stay as they are. -/
theorem FM.below (ho : x.ok) (h : FM x g n w L ts A cA T cT S) (hb : Below w.heap.size w w') : FM x g n w' L ts A cA T cT S := by
  have hlo := h.lo
  have hz := hb.size
  have hx : ∀ b, b < w.heap.size → w'.heap[b]? = w.heap[b]? := fun b hb2 => hb.block b hb2
  refine ⟨⟨by omega, by omega, by omega, by omega, by omega⟩, (hx _ h.lo.1).trans h.pl, fun i hi => (hb.cell (p := ⟨x.pb, i, none⟩) h.lo.2.2.2.2).trans (h.pc i hi), (hx _ h.lo.2.2.2.1).trans h.fo, (hx _ h.lo.2.1).trans h.al, h.alo.kept fun b e => hb.block b (own_lt h.alo e).2.1, h.ao, (hx _ h.lo.2.2.1).trans h.te, h.teo.kept fun b e => hb.block b (own_lt h.teo e).2.1, h.to_, fun i hi => ?_⟩
  obtain ⟨h1, h2⟩ := h.cl i hi
  exact ⟨h1.kept hb.size fun b e => hb.block b (h2 b e).2.1, fun b e => ⟨(h2 b e).1, Nat.lt_of_lt_of_le (h2 b e).2.1 hb.size, (h2 b e).2.2⟩⟩
theorem GKx.refl (x : Bxs) (A T : Option Addr) (w : World) : GKx x A T w w := ⟨rfl, rfl, rfl, Nat.le_refl _, fun _ _ _ _ _ _ => rfl⟩
theorem GKx.of_below (hb : Below w.heap.size w w') : GKx x A T w w' := ⟨hb.os, hb.tape, hb.output, hb.size, fun k hk _ _ _ _ => hb.block k hk⟩
/-- Two gatherings, one behind the other: the second one's rows are the first one's or new ones. -/
theorem GKx.trans {w'' : World} {A' T' : Option Addr} (h : GKx x A T w w') (hA : ∀ b, some b = obk A' → some b = obk A ∨ w.heap.size ≤ b) (hT : ∀ b, some b = obk T' → some b = obk T ∨ w.heap.size ≤ b) (k : GKx x A' T' w' w'') : GKx x A T w w'' :=
  ⟨k.os.trans h.os, k.tape.trans h.tape, k.output.trans h.output, Nat.le_trans h.size k.size, fun b hb h1 h2 h3 h4 => (k.block b (Nat.lt_of_lt_of_le hb h.size) h1 h2 (fun e => by
    rcases hA b e with e2 | e2
    · exact h3 e2
    · omega) (fun e => by
    rcases hT b e with e2 | e2
    · exact h4 e2
    · omega)).trans (h.block b hb h1 h2 h3 h4)⟩
theorem get_app {α : Type} [Inhabited α] (L : List α) (y : α) {i : Nat} (h : i < L.length) : (L ++ [y])[i]! = L[i]! := by
  rw [getElem!_pos (L ++ [y]) i (by simp; omega), getElem!_pos L i h, List.getElem_append_left h]
theorem get_last {α : Type} [Inhabited α] (L : List α) (y : α) : (L ++ [y])[L.length]! = y := by
  rw [getElem!_pos (L ++ [y]) L.length (by simp)]
  simp
/-- The paths' slices, one more. -/
def sAdd (S : Nat → Option Addr × Nat) (k : Nat) (c : Option Addr × Nat) : Nat → Option Addr × Nat := fun i => if i = k then c else S i
theorem pvcell_cat (L : List PV) (y : PV) (S : Nat → Option Addr × Nat) (c : Option Addr × Nat) : ∀ i, i < (L.length + 1) * 3 → catC (L.length * 3) (pvcell (fun i => L[i]!) S) (pvcell (fun _ => y) fun _ => c) i = pvcell (fun i => (L ++ [y])[i]!) (sAdd S L.length c) i := fun i hi => by
  unfold catC
  split
  · rename_i hl
    unfold pvcell sAdd
    dsimp only
    rw [get_app L y (show i / 3 < L.length by omega), if_neg (show ¬ i / 3 = L.length by omega)]
  · have h1 : i / 3 = L.length := by omega
    have h2 : (i - L.length * 3) % 3 = i % 3 := by omega
    unfold pvcell sAdd
    dsimp only
    rw [h1, h2, get_last, if_pos rfl]
theorem tscell_snoc (ts : List TV) (y : TV) : ∀ i, i < (ts.length + 1) * 5 → catC (ts.length * 5) (tscell fun i => ts[i]!) (tscell fun _ => y) i = tscell (fun i => (ts ++ [y])[i]!) i := fun i hi => by
  unfold catC
  split
  · unfold tscell
    dsimp only
    rw [get_app ts y (show i / 5 < ts.length by omega)]
  · have h1 : i / 5 = ts.length := by omega
    have h2 : (i - ts.length * 5) % 5 = i % 5 := by omega
    unfold tscell
    dsimp only
    rw [h1, h2, get_last]
/-- A path more. -/
theorem FM.push (ho : x.ok) (h : FM x g n w L ts A cA T cT S) {y : PV} {C : Option Addr} {cC base : Nat} (hC : OwnC w base 106 5 C y.ts.length cC (tscell fun i => y.ts[i]!))
    (hCd : ∀ b, some b = obk C → x.out b ∧ some b ≠ obk A ∧ some b ≠ obk T) {A' : Option Addr} {cA' : Nat} {w4 : World} (hA' : OwnC w4 0 56 3 A' (L.length + 1) cA' (pvcell (fun i => (L ++ [y])[i]!) (sAdd S L.length (C, cC))))
    (hg : w.grownBy w4 (obk A)) (hat : obk A' = obk A ∨ obk A' = some w.heap.size) :
    FM x g n (w4.setCell ⟨x.Al, 0, none⟩ (.slice A' (L.length + 1) cA')) (L ++ [y]) ts A' cA' T cT (sAdd S L.length (C, cC)) ∧ GKx x A T w (w4.setCell ⟨x.Al, 0, none⟩ (.slice A' (L.length + 1) cA')) := by
  have hlo := h.lo
  have hz : (w4.setCell ⟨x.Al, 0, none⟩ (.slice A' (L.length + 1) cA')).heap.size = w4.heap.size := by simp [World.setCell]
  have hkeep : ∀ k, k < w.heap.size → k ≠ x.Al → some k ≠ obk A → (w4.setCell ⟨x.Al, 0, none⟩ (.slice A' (L.length + 1) cA')).heap[k]? = w.heap[k]? := fun k hk h1 h2 => (Below.heap_setCell _ _ _ _ h1).trans (hg.block k hk h2)
  have hao' : ∀ b, some b = obk A' → x.out b := fun b e => by
    rcases hat with hat | hat
    · rw [hat] at e; exact h.ao b e
    · rw [hat] at e
      have e2 : b = w.heap.size := by injection e
      subst e2
      exact ⟨by omega, by omega, by omega, by omega, by omega⟩
  have hsz4 := hg.size
  have hal4 : RowAt w4 x.Al #[.slice A L.length cA] 45 := (hg.block x.Al h.lo.2.1 fun e => (h.ao _ e).2.1 rfl).trans h.al
  have hlen : (L ++ [y]).length = L.length + 1 := by simp
  refine ⟨⟨by rw [hz]; exact ⟨by omega, by omega, by omega, by omega, by omega⟩, (hkeep _ h.lo.1 ho.pa fun e => (h.ao _ e).1 rfl).trans h.pl, fun i hi => (World.cell?_of_block (w := w) (a := ⟨x.pb, i, none⟩) (hkeep _ h.lo.2.2.2.2 ho.ba fun e => (h.ao _ e).2.2.2.2 rfl)).trans (h.pc i hi), (hkeep _ h.lo.2.2.2.1 ho.fa fun e => (h.ao _ e).2.2.2.1 rfl).trans h.fo, ?_, ?_, hao', (hkeep _ h.lo.2.2.1 (Ne.symm ho.at_) fun e => (h.ao _ e).2.2.1 rfl).trans h.te, h.teo.kept fun b e => ?_, h.to_, fun i hi => ?_⟩, ⟨hg.os, hg.tape, hg.output, by rw [hz]; exact hg.size, fun k hk h1 h2 h3 h4 => hkeep k hk h1 h3⟩⟩
  · rw [hlen]
    exact hal4.set 0 _
  · rw [hlen]
    exact hA'.kept fun b e => Below.heap_setCell _ _ _ _ (by show b ≠ x.Al; exact (hao' b e).2.1)
  · obtain ⟨e1, e2, _⟩ := own_lt h.teo e
    exact hkeep b e2 (h.to_ b e).2.1 fun e3 => h.apart e3 e
  · rw [hlen] at hi
    by_cases hil : i < L.length
    · rw [get_app L y hil]
      have hs : sAdd S L.length (C, cC) i = S i := by unfold sAdd; rw [if_neg (by omega)]
      rw [hs]
      obtain ⟨h1, h2⟩ := h.cl i hil
      refine ⟨h1.kept (by rw [hz]; exact hg.size) fun b e => ?_, fun b e => ?_⟩
      · obtain ⟨e1, e2, e3, _⟩ := h2 b e
        exact hkeep b e2 e1.2.1 e3
      · obtain ⟨e1, e2, e3, e4⟩ := h2 b e
        refine ⟨e1, by rw [hz]; exact Nat.lt_of_lt_of_le e2 hg.size, fun e5 => ?_, e4⟩
        rcases hat with hat | hat
        · rw [hat] at e5; exact e3 e5
        · rw [hat] at e5
          have : b = w.heap.size := by injection e5
          omega
    · obtain rfl : i = L.length := by omega
      rw [get_last]
      have hs : sAdd S L.length (C, cC) L.length = (C, cC) := by unfold sAdd; rw [if_pos rfl]
      rw [hs]
      refine ⟨hC.cel.kept (by rw [hz]; exact hg.size) fun b e => ?_, fun b e => ?_⟩
      · obtain ⟨e1, e3, _⟩ := hCd b e
        exact hkeep b (own_lt hC e).2.1 e1.2.1 e3
      · obtain ⟨e1, e3, e4⟩ := hCd b e
        have e2 := (own_lt hC e).2.1
        refine ⟨e1, by rw [hz]; exact Nat.lt_of_lt_of_le e2 hg.size, fun e5 => ?_, e4⟩
        rcases hat with hat | hat
        · rw [hat] at e5; exact e3 e5
        · rw [hat] at e5
          have : b = w.heap.size := by injection e5
          omega
/-- A test more. -/
theorem FM.tpush (ho : x.ok) (h : FM x g n w L ts A cA T cT S) {y : TV} {T' : Option Addr} {cT' : Nat} {w4 : World} (hT' : OwnC w4 0 106 5 T' (ts.length + 1) cT' (tscell fun i => (ts ++ [y])[i]!))
    (hg : w.grownBy w4 (obk T)) (hat : obk T' = obk T ∨ obk T' = some w.heap.size) :
    FM x g n (w4.setCell ⟨x.Te, 0, none⟩ (.slice T' (ts.length + 1) cT')) L (ts ++ [y]) A cA T' cT' S ∧ GKx x A T w (w4.setCell ⟨x.Te, 0, none⟩ (.slice T' (ts.length + 1) cT')) := by
  have hlo := h.lo
  have hz : (w4.setCell ⟨x.Te, 0, none⟩ (.slice T' (ts.length + 1) cT')).heap.size = w4.heap.size := by simp [World.setCell]
  have hkeep : ∀ k, k < w.heap.size → k ≠ x.Te → some k ≠ obk T → (w4.setCell ⟨x.Te, 0, none⟩ (.slice T' (ts.length + 1) cT')).heap[k]? = w.heap[k]? := fun k hk h1 h2 => (Below.heap_setCell _ _ _ _ h1).trans (hg.block k hk h2)
  have hto' : ∀ b, some b = obk T' → x.out b := fun b e => by
    rcases hat with hat | hat
    · rw [hat] at e; exact h.to_ b e
    · rw [hat] at e
      have e2 : b = w.heap.size := by injection e
      subst e2
      exact ⟨by omega, by omega, by omega, by omega, by omega⟩
  have hsz4 := hg.size
  have hte4 : RowAt w4 x.Te #[.slice T ts.length cT] 54 := (hg.block x.Te h.lo.2.2.1 fun e => (h.to_ _ e).2.2.1 rfl).trans h.te
  have hlen : (ts ++ [y]).length = ts.length + 1 := by simp
  refine ⟨⟨by rw [hz]; exact ⟨by omega, by omega, by omega, by omega, by omega⟩, (hkeep _ h.lo.1 ho.pt fun e => (h.to_ _ e).1 rfl).trans h.pl, fun i hi => (World.cell?_of_block (w := w) (a := ⟨x.pb, i, none⟩) (hkeep _ h.lo.2.2.2.2 ho.bt fun e => (h.to_ _ e).2.2.2.2 rfl)).trans (h.pc i hi), (hkeep _ h.lo.2.2.2.1 ho.ft fun e => (h.to_ _ e).2.2.2.1 rfl).trans h.fo, (hkeep _ h.lo.2.1 ho.at_ fun e => (h.to_ _ e).2.1 rfl).trans h.al, h.alo.kept fun b e => ?_, h.ao, ?_, ?_, hto', fun i hi => ?_⟩, ⟨hg.os, hg.tape, hg.output, by rw [hz]; exact hg.size, fun k hk h1 h2 h3 h4 => hkeep k hk h2 h4⟩⟩
  · obtain ⟨e1, e2, _⟩ := own_lt h.alo e
    exact hkeep b e2 (h.ao b e).2.2.1 (h.apart e)
  · rw [hlen]
    exact hte4.set 0 _
  · rw [hlen]
    exact hT'.kept fun b e => Below.heap_setCell _ _ _ _ (by show b ≠ x.Te; exact (hto' b e).2.2.1)
  · obtain ⟨h1, h2⟩ := h.cl i hi
    refine ⟨h1.kept (by rw [hz]; exact hg.size) fun b e => ?_, fun b e => ?_⟩
    · obtain ⟨e1, e2, _, e4⟩ := h2 b e
      exact hkeep b e2 e1.2.2.1 e4
    · obtain ⟨e1, e2, e3, e4⟩ := h2 b e
      refine ⟨e1, by rw [hz]; exact Nat.lt_of_lt_of_le e2 hg.size, e3, fun e5 => ?_⟩
      rcases hat with hat | hat
      · rw [hat] at e5; exact e4 e5
      · rw [hat] at e5
        have : b = w.heap.size := by injection e5
        omega
/-- A test less. -/
theorem FM.tpop (ho : x.ok) {y : TV} (h : FM x g n w L (ts ++ [y]) A cA T cT S) :
    FM x g n (w.setCell ⟨x.Te, 0, none⟩ (.slice T ts.length cT)) L ts A cA T cT S ∧ GKx x A T w (w.setCell ⟨x.Te, 0, none⟩ (.slice T ts.length cT)) := by
  have hlo := h.lo
  have hz : (w.setCell ⟨x.Te, 0, none⟩ (.slice T ts.length cT)).heap.size = w.heap.size := by simp [World.setCell]
  have hkeep : ∀ k, k ≠ x.Te → (w.setCell ⟨x.Te, 0, none⟩ (.slice T ts.length cT)).heap[k]? = w.heap[k]? := fun k h1 => Below.heap_setCell _ _ _ _ h1
  refine ⟨⟨by rw [hz]; exact hlo, (hkeep _ ho.pt).trans h.pl, fun i hi => (World.cell?_of_block (w := w) (a := ⟨x.pb, i, none⟩) (hkeep _ ho.bt)).trans (h.pc i hi), (hkeep _ ho.ft).trans h.fo, (hkeep _ ho.at_).trans h.al, h.alo.kept fun b e => hkeep b (h.ao b e).2.2.1, h.ao, h.te.set 0 _, ?_, h.to_, fun i hi => ?_⟩, ⟨rfl, rfl, rfl, by rw [hz]; exact Nat.le_refl _, fun k hk h1 h2 h3 h4 => hkeep k h2⟩⟩
  · have h1 := h.teo.short (k := ts.length) (by simp)
    refine (h1.congr fun i hi => ?_).kept fun b e => hkeep b (h.to_ b e).2.2.1
    unfold tscell
    dsimp only
    rw [get_app ts y (show i / 5 < ts.length by omega)]
  · obtain ⟨h1, h2⟩ := h.cl i hi
    refine ⟨h1.kept (by rw [hz]; exact Nat.le_refl _) fun b e => hkeep b (h2 b e).1.2.2.1, fun b e => ?_⟩
    rw [hz]
    exact h2 b e
end
/-- What a gathering that began at w, with the paths L (their slices S) and the rows A and T, has come to. -/
structure GS (x : Bxs) (g : Nat → IV) (n : Nat) (w : World) (L : List PV) (A T : Option Addr) (S : Nat → Option Addr × Nat) (w1 : World) (L1 : List PV) (ts1 : List TV) (A1 : Option Addr) (cA1 : Nat) (T1 : Option Addr) (cT1 : Nat) (S1 : Nat → Option Addr × Nat) : Prop where
  fm : FM x g n w1 L1 ts1 A1 cA1 T1 cT1 S1
  gk : GKx x A T w w1
  na : ∀ b, some b = obk A1 → some b = obk A ∨ w.heap.size ≤ b
  nt : ∀ b, some b = obk T1 → some b = obk T ∨ w.heap.size ≤ b
  nc : ∀ i, i < L1.length → ∀ b, some b = obk (S1 i).1 → (∃ j, j < L.length ∧ some b = obk (S j).1) ∨ w.heap.size ≤ b
section
variable {x : Bxs} {g : Nat → IV} {n : Nat} {w w1 w2 : World} {L L1 L2 : List PV} {ts ts1 ts2 : List TV} {A T A1 T1 A2 T2 : Option Addr} {cA cT cA1 cT1 cA2 cT2 : Nat} {S S1 S2 : Nat → Option Addr × Nat}
theorem GS.of (h : FM x g n w L ts A cA T cT S) : GS x g n w L A T S w L ts A cA T cT S := ⟨h, GKx.refl _ _ _ _, fun _ e => .inl e, fun _ e => .inl e, fun i hi b e => .inl ⟨i, hi, e⟩⟩
theorem GS.trans (h : GS x g n w L A T S w1 L1 ts1 A1 cA1 T1 cT1 S1) (k : GS x g n w1 L1 A1 T1 S1 w2 L2 ts2 A2 cA2 T2 cT2 S2) : GS x g n w L A T S w2 L2 ts2 A2 cA2 T2 cT2 S2 :=
  ⟨k.fm, h.gk.trans h.na h.nt k.gk, fun b e => (k.na b e).elim (fun e2 => h.na b e2) fun e2 => .inr (Nat.le_trans h.gk.size e2), fun b e => (k.nt b e).elim (fun e2 => h.nt b e2) fun e2 => .inr (Nat.le_trans h.gk.size e2),
    fun i hi b e => (k.nc i hi b e).elim (fun ⟨j, hj, e2⟩ => h.nc j hj b e2) fun e2 => .inr (Nat.le_trans h.gk.size e2)⟩
theorem GS.below (ho : x.ok) (h : GS x g n w L A T S w1 L1 ts1 A1 cA1 T1 cT1 S1) (hb : Below w1.heap.size w1 w2) : GS x g n w L A T S w2 L1 ts1 A1 cA1 T1 cT1 S1 :=
  ⟨h.fm.below ho hb, h.gk.trans h.na h.nt (GKx.of_below hb), h.na, h.nt, h.nc⟩
/-- What is not one of the rows, nor a box of theirs, is kept. -/
theorem GS.row (h : GS x g n w L A T S w1 L1 ts1 A1 cA1 T1 cT1 S1) {b : Nat} {cs : Array Value} {E : TypeId} (hr : RowAt w b cs E) (h1 : b ≠ x.Al) (h2 : b ≠ x.Te) (h3 : some b ≠ obk A) (h4 : some b ≠ obk T) : RowAt w1 b cs E :=
  (h.gk.block b (Array.getElem?_eq_some_iff.1 hr).1 h1 h2 h3 h4).trans hr
/-- A store beside. -/
theorem GS.aside (ho : x.ok) (h : GS x g n w L A T S w1 L1 ts1 A1 cA1 T1 cT1 S1) {X : Nat} (hX : w.heap.size ≤ X) (hlo : x.out X) (hA : some X ≠ obk A1) (hT : some X ≠ obk T1) (hC : ∀ i, i < L1.length → some X ≠ obk (S1 i).1) (j : Nat) (v : Value) :
    GS x g n w L A T S (w1.setCell ⟨X, j, none⟩ v) L1 ts1 A1 cA1 T1 cT1 S1 := by
  have hz : (w1.setCell ⟨X, j, none⟩ v).heap.size = w1.heap.size := by simp [World.setCell]
  have hk : ∀ b, b ≠ X → (w1.setCell ⟨X, j, none⟩ v).heap[b]? = w1.heap[b]? := fun b hb => Below.heap_setCell _ _ _ _ hb
  obtain ⟨o1, o2, o3, o4, o5⟩ := hlo
  refine ⟨⟨by rw [hz]; exact h.fm.lo, (hk _ (Ne.symm o1)).trans h.fm.pl, fun i hi => (World.cell?_of_block (w := w1) (a := ⟨x.pb, i, none⟩) (hk _ (Ne.symm o5))).trans (h.fm.pc i hi), (hk _ (Ne.symm o4)).trans h.fm.fo, (hk _ (Ne.symm o2)).trans h.fm.al, h.fm.alo.kept fun b e => hk b fun e2 => hA (e2 ▸ e), h.fm.ao, (hk _ (Ne.symm o3)).trans h.fm.te, h.fm.teo.kept fun b e => hk b fun e2 => hT (e2 ▸ e), h.fm.to_, fun i hi => ?_⟩, ⟨h.gk.os, h.gk.tape, h.gk.output, by rw [hz]; exact h.gk.size, fun k hk2 h1 h2 h3 h4 => (hk k (by omega)).trans (h.gk.block k hk2 h1 h2 h3 h4)⟩, h.na, h.nt, h.nc⟩
  obtain ⟨h1, h2⟩ := h.fm.cl i hi
  refine ⟨h1.kept (by rw [hz]; exact Nat.le_refl _) fun b e => hk b fun e2 => hC i hi (e2 ▸ e), fun b e => ?_⟩
  rw [hz]
  exact h2 b e
end
/-- What the closure does from an instruction on, m at most behind it. -/
def FolI (x : Bxs) (g : Nat → IV) (n m : Nat) : Prop := ∀ (i : Nat), n - i ≤ m → i < n → ∀ (p q : Nat) (d : Int) (kk : Nat) (b : Bool) (s : Nat) (w : World) (L : List PV) (ts : List TV) (A : Option Addr) (cA : Nat) (T : Option Addr) (cT : Nat) (S : Nat → Option Addr × Nat),
  FM x g n w L ts A cA T cT S → p < 4294967296 → q < 4294967296 → kk < 4294967296 → s + (n - i) ≤ 100000 → ts.length + (n - i) ≤ 10000 → L.length + (pF g m i p q ts s).length ≤ 100000 →
  Calls Try.prog 70 #[.int .i64 i, .int .i64 s, .agg #[.int .i64 p, .int .u32 q, .int .i64 d, .int .u32 kk, .bool b], .pointer (some ⟨x.P, 0, none⟩), .pointer (some ⟨x.Al, 0, none⟩), .pointer (some ⟨x.Te, 0, none⟩), .pointer (some ⟨x.Fo, 0, none⟩)] w fun e w' => e = .returned (.tuple #[]) ∧ ∃ A' cA' T' cT' S', GS x g n w L A T S w' (L ++ pF g m i p q ts s) ts A' cA' T' cT' S'
end Go.Proofs.Ytmndolojfdekdaa

/-
  Layer 27: the closure that gathers paths: at a return. Made by gen_wyg.py.
-/
namespace Go.Proofs.Ytmndolojfdekdaa
open Go.RowKit Go.Shelf
set_option linter.unusedVariables false
theorem wp_region_E {P : Program} {ops : Array Oper} {S : World → Prop} {id : Nat} {a : Act} {w : World} {Q : Exit → Act → World → Prop} (z : Nat) (hm : P.follows .mixedOrders = true)
    (h : wpAnyE P .any ops Q S z ops.size (Array.replicate ops.size false) a w.drew) : (Code.region id ops true).wp P Q a w :=
  wp_region_any hm (wpAny_of_E _ _ _ _ h)
theorem one_pv (w : World) (y : PV) (C : Option Addr) (cC : Nat) (E : TypeId) (b : Nat) (hb : b = w.heap.size) (z : Int) (hz : z = (y.st : Nat)) : Cel (w.alloc (.cells #[.slice C y.ts.length cC, .int .i64 z, .int .u32 (y.v : Nat)] E)) (w.heap.size + 1) 3 (some ⟨b, 0, none⟩) 1 1 (pvcell (fun _ => y) fun _ => (C, cC)) := by
  subst hb hz
  refine Cel.mk_ (Nat.lt_succ_self _) (Nat.le_refl _) (by decide) fun i hi => ?_
  have hi' : i < 3 := by omega
  rw [Nat.zero_add, cell_of_row _ _ _ _ _ _ (heap_alloc_last w _)]
  match i, hi' with
  | 0, _ | 1, _ | 2, _ => rfl
set_option maxRecDepth 100000 in
set_option maxHeartbeats 16000000 in
theorem fol_ret (x : Bxs) (ho : x.ok) (g : Nat → IV) (n : Nat) (hF : Fmd g n) (hv : ∀ i, i < n → (g i).ok) (hk : ∀ i, i < n → okI (g i) = true) (m : Nat) (i : Nat) (hi : i < n) (p q : Nat) (d : Int) (kk : Nat) (b : Bool) (s : Nat) (w : World) (L : List PV) (ts : List TV) (A : Option Addr) (cA : Nat) (T : Option Addr) (cT : Nat) (S : Nat → Option Addr × Nat) (h : FM x g n w L ts A cA T cT S) (hp : p < 4294967296) (hq : q < 4294967296) (hkk : kk < 4294967296) (hs : s + (n - i) ≤ 100000) (hts : ts.length + (n - i) ≤ 10000) (hKi : kd (g i) = 14) (hL : L.length + 1 ≤ 100000) :
    Calls Try.prog 70 #[.int .i64 i, .int .i64 s, .agg #[.int .i64 p, .int .u32 q, .int .i64 d, .int .u32 kk, .bool b], .pointer (some ⟨x.P, 0, none⟩), .pointer (some ⟨x.Al, 0, none⟩), .pointer (some ⟨x.Te, 0, none⟩), .pointer (some ⟨x.Fo, 0, none⟩)] w fun e w' => e = .returned (.tuple #[]) ∧ ∃ A' cA' T' cT' S', GS x g n w L A T S w' (L ++ [⟨ts, s + 1, (g i).k⟩]) ts A' cA' T' cT' S' := by
  obtain ⟨v, hgv⟩ : ∃ v, g i = v := ⟨_, rfl⟩
  have hvo : v.ok := by rw [← hgv]; exact hv i hi
  have hle := hF.le
  have hin : n - i ≥ 1 := by omega
  have hb1 : Below w.heap.size w (w.alloc (.cells #[.int .i64 (p : Int), .int .u32 (q : Int), .int .i64 d, .int .u32 (kk : Int), .bool b] 106)) := (Below.refl _ _).alloc (Nat.le_refl _) _
  have hfm1 := h.below ho hb1
  have e0 := hfm1.pl.cell 0 _ rfl
  have hpc : ∀ j, j < 6 → (w.alloc (.cells #[.int .i64 (p : Int), .int .u32 (q : Int), .int .i64 d, .int .u32 (kk : Int), .bool b] 106)).cell? ⟨x.pb, i * 6 + j, none⟩ = some ((flA v i).getD j undef) := fun j hj => by
    rw [hfm1.pc _ (by omega), fcell_at g i j hj, hgv]
  have q0 : (w.alloc (.cells #[.int .i64 (p : Int), .int .u32 (q : Int), .int .i64 d, .int .u32 (kk : Int), .bool b] 106)).cell? ⟨x.pb, i * 6, none⟩ = some (.int .u16 v.c) := hpc 0 (by decide)
  have q1 : (w.alloc (.cells #[.int .i64 (p : Int), .int .u32 (q : Int), .int .i64 d, .int .u32 (kk : Int), .bool b] 106)).cell? ⟨x.pb, i * 6 + 1, none⟩ = some (.int .u8 v.t) := hpc 1 (by decide)
  have q2 : (w.alloc (.cells #[.int .i64 (p : Int), .int .u32 (q : Int), .int .i64 d, .int .u32 (kk : Int), .bool b] 106)).cell? ⟨x.pb, i * 6 + 2, none⟩ = some (.int .u8 v.f) := hpc 2 (by decide)
  have q3 : (w.alloc (.cells #[.int .i64 (p : Int), .int .u32 (q : Int), .int .i64 d, .int .u32 (kk : Int), .bool b] 106)).cell? ⟨x.pb, i * 6 + 3, none⟩ = some (.int .u32 v.k) := hpc 3 (by decide)
  have q4 : (w.alloc (.cells #[.int .i64 (p : Int), .int .u32 (q : Int), .int .i64 d, .int .u32 (kk : Int), .bool b] 106)).cell? ⟨x.pb, i * 6 + 4, none⟩ = some (.int .i64 14) := by have h4 := hpc 4 (by decide); rw [h4]; show some (Value.int .i64 (kd v)) = _; rw [← hgv, hKi]
  have q5 : (w.alloc (.cells #[.int .i64 (p : Int), .int .u32 (q : Int), .int .i64 d, .int .u32 (kk : Int), .bool b] 106)).cell? ⟨x.pb, i * 6 + 5, none⟩ = some (.int .i64 i) := hpc 5 (by decide)
  have i1 : (0 : Int) ≤ (i : Int) := by omega
  have i2 : (i : Int) < (n : Int) := by omega
  have hb2 : Below w.heap.size w ((w.alloc (.cells #[.int .i64 (p : Int), .int .u32 (q : Int), .int .i64 d, .int .u32 (kk : Int), .bool b] 106)).alloc (.cells #[.int .u16 v.c, .int .u8 v.t, .int .u8 v.f, .int .u32 v.k, .int .i64 14, .int .i64 (i : Int)] 133)) := hb1.alloc hb1.size _
  have HG2 := Lib.hid ((GS.of h).below ho hb2)
  have hra : RowC ((w.alloc (.cells #[.int .i64 (p : Int), .int .u32 (q : Int), .int .i64 d, .int .u32 (kk : Int), .bool b] 106)).alloc (.cells #[.int .u16 v.c, .int .u8 v.t, .int .u8 v.f, .int .u32 v.k, .int .i64 14, .int .i64 (i : Int)] 133)) w.heap.size #[.int .i64 (p : Int), .int .u32 (q : Int), .int .i64 d, .int .u32 (kk : Int), .bool b] 106 := (RowC.new _ _ _ _ rfl).alloc _
  have hrx : RowC ((w.alloc (.cells #[.int .i64 (p : Int), .int .u32 (q : Int), .int .i64 d, .int .u32 (kk : Int), .bool b] 106)).alloc (.cells #[.int .u16 v.c, .int .u8 v.t, .int .u8 v.f, .int .u32 v.k, .int .i64 14, .int .i64 (i : Int)] 133)) (w.heap.size + 1) #[.int .u16 v.c, .int .u8 v.t, .int .u8 v.f, .int .u32 v.k, .int .i64 14, .int .i64 (i : Int)] 133 := RowC.new _ _ _ _ (by simp)
  have HRA := Lib.hid hra
  have HRX := Lib.hid hrx
  have hsz2 : ((w.alloc (.cells #[.int .i64 (p : Int), .int .u32 (q : Int), .int .i64 d, .int .u32 (kk : Int), .bool b] 106)).alloc (.cells #[.int .u16 v.c, .int .u8 v.t, .int .u8 v.f, .int .u32 v.k, .int .i64 14, .int .i64 (i : Int)] 133)).heap.size = w.heap.size + 2 := by simp
  have HSZ := Lib.hid hsz2
  have hlo := h.lo
  have d4 := hrx.cell 4 _ rfl
  have d3 := hrx.cell 3 _ rfl
  clear hra hrx hb1 hb2 hfm1 hpc hsz2
  rw [hgv]
  have HL : Hid (∀ W, Calls Try.prog 69 #[.agg #[.int .u16 v.c, .int .u8 v.t, .int .u8 v.f, .int .u32 v.k, .int .i64 14, .int .i64 (i : Int)]] W fun e w' => ∃ A m, e = .returned (.slice A m m) ∧ I64s w' W.heap.size A m [] ∧ Below W.heap.size W w') := Lib.hid fun W => by
    have hkv : kd v = 14 := by rw [← hgv]; exact hKi
    have h1 := pleads_any v hvo (by rw [hkv]; decide) i W (by omega)
    rw [← nexts_if, hkv] at h1
    simp only [flV, hkv] at h1
    exact h1
  clear hgv hKi
  go_enter Try.func70, Try.ntmps70
  go_wp2
  obtain ⟨W2, hW2⟩ : ∃ W2, (w.alloc (.cells #[.int .i64 (p : Int), .int .u32 (q : Int), .int .i64 d, .int .u32 (kk : Int), .bool b] 106)).alloc (.cells #[.int .u16 v.c, .int .u8 v.t, .int .u8 v.f, .int .u32 v.k, .int .i64 14, .int .i64 (i : Int)] 133) = W2 := ⟨_, rfl⟩
  rw [hW2] at HG2 HRA HRX HSZ d3 d4 ⊢
  clear hW2
  have hAl2 : x.Al < W2.heap.size := HG2.out.fm.lo.2.1
  have hTe2 : x.Te < W2.heap.size := HG2.out.fm.lo.2.2.1
  have hX2 : w.heap.size + 1 < W2.heap.size := by have := HSZ.out; omega
  have al0 := RowAt.cell HG2.out.fm.al 0 _ rfl
  have te0 := RowAt.cell HG2.out.fm.te 0 _ rfl
  refine wp_region_E (S := fun V => Below W2.heap.size W2 V) 9 (by kernel_rfl) ?_
  have hHeld : Below W2.heap.size W2 W2.drew := (Below.refl _ _).drew
  refine wpAnyE_take (i := 0) (oi := ({ dst := some 25, op := Op.load 45 (Operand.tmp 4), type := 45, pos := "paths.go:162", after := #[], guard := none } : Oper)) (v := ?vf0x1) rfl (by kernel_rfl) (by decide) (by kernel_rfl) (fun _ _ _ h => h) (by rfl) ?hf0x1 hHeld ?rf0x1
  case hf0x1 =>
    intro V hV
    have s0 := (hV.cell (p := ⟨x.Al, 0, none⟩) hAl2).trans al0
    go_simp
    all_goals with_reducible rfl
  try simp only [Act.put, List.setIfInBounds_toArray, List.set_cons_zero, List.set_cons_succ]
  refine wpAnyE_take (i := 1) (oi := ({ dst := some 26, op := Op.load 54 (Operand.tmp 5), type := 54, pos := "paths.go:162", after := #[], guard := none } : Oper)) (v := ?vf1x2) rfl (by kernel_rfl) (by decide) (by kernel_rfl) (fun _ _ _ h => h) (by rfl) ?hf1x2 hHeld ?rf1x2
  case hf1x2 =>
    intro V hV
    have s1 := (hV.cell (p := ⟨x.Te, 0, none⟩) hTe2).trans te0
    go_simp
    all_goals with_reducible rfl
  try simp only [Act.put, List.setIfInBounds_toArray, List.set_cons_zero, List.set_cons_succ]
  refine wpAnyE_take (i := 3) (oi := ({ dst := some 28, op := Op.move (Operand.tmp 1), type := 3, pos := "paths.go:162", after := #[], guard := none } : Oper)) (v := ?vf3x3) rfl (by kernel_rfl) (by decide) (by kernel_rfl) (fun _ _ _ h => h) (by rfl) ?hf3x3 hHeld ?rf3x3
  case hf3x3 =>
    intro V hV
    skip
    go_simp
    all_goals with_reducible rfl
  try simp only [Act.put, List.setIfInBounds_toArray, List.set_cons_zero, List.set_cons_succ]
  refine wpAnyE_take (i := 4) (oi := ({ dst := some 29, op := Op.fieldAddr 133 (Operand.tmp 10) 0, type := 0, pos := "paths.go:162", after := #[], guard := none } : Oper)) (v := ?vf4x4) rfl (by kernel_rfl) (by decide) (by kernel_rfl) (fun _ _ _ h => h) (by rfl) ?hf4x4 hHeld ?rf4x4
  case hf4x4 =>
    intro V hV
    skip
    go_simp
    all_goals with_reducible rfl
  try simp only [Act.put, List.setIfInBounds_toArray, List.set_cons_zero, List.set_cons_succ]
  refine wpAnyE_take (i := 5) (oi := ({ dst := some 30, op := Op.fieldAddr 71 (Operand.tmp 29) 3, type := 0, pos := "paths.go:162", after := #[{ on := 4, ground := Ground.data }], guard := none } : Oper)) (v := ?vf5x5) rfl (by kernel_rfl) (by decide) (by kernel_rfl) (fun _ _ _ h => h) (by rfl) ?hf5x5 hHeld ?rf5x5
  case hf5x5 =>
    intro V hV
    skip
    go_simp
    all_goals with_reducible rfl
  try simp only [Act.put, List.setIfInBounds_toArray, List.set_cons_zero, List.set_cons_succ]
  refine wpAnyE_take (i := 6) (oi := ({ dst := some 31, op := Op.load 43 (Operand.tmp 30), type := 43, pos := "paths.go:162", after := #[{ on := 5, ground := Ground.data }], guard := none } : Oper)) (v := ?vf6x6) rfl (by kernel_rfl) (by decide) (by kernel_rfl) (fun _ _ _ h => h) (by rfl) ?hf6x6 hHeld ?rf6x6
  case hf6x6 =>
    intro V hV
    have s3 := (hV.cell (p := ⟨w.heap.size + 1, 3, none⟩) hX2).trans d3
    go_simp
    all_goals with_reducible rfl
  try simp only [Act.put, List.setIfInBounds_toArray, List.set_cons_zero, List.set_cons_succ]
  refine wpAnyE_ready (rs := [2]) (by kernel_rfl) (by simp) ?_
  refine (AllE.cons (o := ({ dst := some 27, op := Op.call { callee := Callee.value (Operand.func 71), args := #[Operand.tmp 26], argTypes := #[54] }, type := 54, pos := "paths.go:162", after := #[{ on := 1, ground := Ground.data }], guard := none } : Oper)) rfl (by decide) (fun K hK => ?_) AllE.nil)
  go_simp
  refine (cloneT_any T ts.length cT (fun i => ts[i]!) W2.drew (by omega) (HG2.out.fm.below ho hHeld).teo.cel).mono ?_
  rintro e V1 ⟨C, cC, rfl, hC, hV1⟩
  have hH1 : Below W2.heap.size W2 V1 := hHeld.trans hV1
  refine hK.out _ _ ?kf2x7 (fun hHeld2 => ?_)
  case kf2x7 => exact hH1
  clear hK K
  try simp only [Act.put, List.setIfInBounds_toArray, List.set_cons_zero, List.set_cons_succ]
  replace hHeld := hHeld2
  clear hHeld2
  refine wpAnyE_take (i := 7) (oi := ({ dst := some 32, op := Op.build 56 #[(0, Operand.tmp 27), (1, Operand.tmp 28), (2, Operand.tmp 31)], type := 56, pos := "paths.go:162", after := #[{ on := 2, ground := Ground.data }, { on := 3, ground := Ground.data }, { on := 6, ground := Ground.data }], guard := none } : Oper)) (v := ?vf7x8) rfl (by kernel_rfl) (by decide) (by kernel_rfl) (fun _ _ _ h => h) (by rfl) ?hf7x8 hHeld ?rf7x8
  case hf7x8 =>
    intro V hV
    skip
    go_simp
    all_goals with_reducible rfl
  try simp only [Act.put, List.setIfInBounds_toArray, List.set_cons_zero, List.set_cons_succ]
  refine wpAnyE_ready (rs := [8]) (by kernel_rfl) (by simp) ?_
  refine (AllE.cons (o := ({ dst := some 33, op := Op.buildSlice 45 1 #[(0, Operand.tmp 32)], type := 45, pos := "paths.go:162", after := #[{ on := 7, ground := Ground.data }], guard := none } : Oper)) rfl (by decide) (fun K hK => ?_) AllE.nil)
  go_simp
  refine hK.out _ _ ?kf8x9 (fun hHeld2 => ?_)
  case kf8x9 => exact hH1.alloc hH1.size _
  clear hK K
  try simp only [Act.put, List.setIfInBounds_toArray, List.set_cons_zero, List.set_cons_succ]
  replace hHeld := hHeld2
  clear hHeld2
  refine wpAnyE_late (j := 9) (o := ({ dst := some 34, op := Op.call { callee := Callee.builtin Builtin.append, args := #[Operand.tmp 25, Operand.tmp 33], argTypes := #[45, 45] }, type := 45, pos := "paths.go:162", after := #[{ on := 0, ground := Ground.data }, { on := 8, ground := Ground.data }, { on := 2, ground := Ground.chain }], guard := none } : Oper)) (by kernel_rfl) (by decide) rfl (fun K hK => ?_)
  refine step_cellsA (by rfl) _ _ _ 56 (by rfl) Try.underlying45 infoPv (by rfl) (by decide) (by rfl) ((HG2.out.fm.below ho hHeld).alo) (by rfl) (one_pv V1 ⟨ts, s + 1, v.k⟩ C cC 56 V1.heap.size rfl ((s : Int) + 1) (show ((s : Int) + 1) = ((s + 1 : Nat) : Int) by omega)) (fun i _ => pvcell_one _ _ i) (by unfold maxLen; omega) (by omega) (Nat.zero_le _) (L.length + 1) rfl (pvcell (fun i => (L ++ [⟨ts, s + 1, v.k⟩])[i]!) (sAdd S L.length (C, cC))) (pvcell_cat L ⟨ts, s + 1, v.k⟩ S (C, cC)) ?_
  rintro A8 c8 W8 hA8 hg8 hat8
  rw [own_obk] at hg8
  rw [own_obk, own_obk] at hat8
  have hfm3 := HG2.out.fm.below ho hHeld
  have hpush := hfm3.push ho (y := ⟨ts, s + 1, v.k⟩) (hC.alloc _) (fun b e => by
    obtain ⟨e1, _, _⟩ := own_lt hC e
    have e1 : W2.heap.size ≤ b := e1
    have e9 := HG2.out.fm.lo
    exact ⟨⟨by omega, by omega, by omega, by omega, by omega⟩, fun e2 => by have := (own_lt HG2.out.fm.alo e2).2.1; omega, fun e2 => by have := (own_lt HG2.out.fm.teo e2).2.1; omega⟩) hA8 hg8 hat8
  have hal8 := (hg8.block x.Al (Nat.lt_of_lt_of_le hAl2 hHeld.size) (fun e => (hfm3.ao _ e).2.1 rfl)).trans hfm3.al
  have s8 := RowAt.cell hal8 0 _ rfl
  have s9 := RowAt.frozen hal8 0
  refine hK.out _ _ ?_
  clear hK K
  try simp only [Act.put, List.setIfInBounds_toArray, List.set_cons_zero, List.set_cons_succ]
  refine wpAnyE_late (j := 10) (o := ({ dst := none, op := Op.store 45 (Operand.tmp 4) (Operand.tmp 34), type := 0, pos := "paths.go:162", after := #[{ on := 9, ground := Ground.data }, { on := 9, ground := Ground.chain }, { on := 0, ground := Ground.phase }, { on := 1, ground := Ground.phase }, { on := 2, ground := Ground.phase }, { on := 3, ground := Ground.phase }, { on := 4, ground := Ground.phase }, { on := 5, ground := Ground.phase }, { on := 6, ground := Ground.phase }, { on := 7, ground := Ground.phase }, { on := 8, ground := Ground.phase }, { on := 9, ground := Ground.phase }], guard := none } : Oper)) (by kernel_rfl) (by decide) rfl (fun K hK => ?_)
  go_simp
  refine hK.out _ _ ?_
  clear hK K
  try simp only [Act.put, List.setIfInBounds_toArray, List.set_cons_zero, List.set_cons_succ]
  refine wpAnyE_done (by kernel_rfl) ?_ _
  have hk9 : GS x g n W2 L A T S (W8.setCell ⟨x.Al, 0, none⟩ (.slice A8 (L.length + 1) c8)) (L ++ [⟨ts, s + 1, v.k⟩]) ts A8 c8 T cT (sAdd S L.length (C, cC)) := ⟨hpush.1, (GKx.of_below hHeld).trans (fun b e => .inl e) (fun b e => .inl e) hpush.2, fun b e => by
    rcases hat8 with h9 | h9
    · rw [h9] at e; exact .inl e
    · rw [h9] at e
      injection e with e3
      have := hHeld.size
      exact .inr (by omega), fun b e => .inl e, fun j hj b e => by
    by_cases hjl : j < L.length
    · unfold sAdd at e
      rw [if_neg (by omega)] at e
      exact .inl ⟨j, hjl, e⟩
    · unfold sAdd at e
      rw [if_pos (by simp at hj; omega)] at e
      exact .inr (own_lt hC e).1⟩
  have HG9 := Lib.hid (HG2.out.trans hk9)
  have HX9 := Lib.hid (hk9.row (show RowAt W2 (w.heap.size + 1) _ _ from HRX.out) (by have := h.lo.2.1; omega) (by have := h.lo.2.2.1; omega) (fun e => by have := (own_lt h.alo e).2.1; omega) (fun e => by have := (own_lt h.teo e).2.1; omega))
  have y0 := RowAt.cell HX9.out 0 _ rfl
  have y1 := RowAt.cell HX9.out 1 _ rfl
  have y2 := RowAt.cell HX9.out 2 _ rfl
  have y3 := RowAt.cell HX9.out 3 _ rfl
  have y4 := RowAt.cell HX9.out 4 _ rfl
  have y5 := RowAt.cell HX9.out 5 _ rfl
  clear d3 d4 hk9 hpush hal8 s8 s9 hg8 hat8 hA8 hHeld
  generalize W8.setCell ⟨x.Al, 0, none⟩ (.slice A8 (L.length + 1) c8) = W9 at *
  go_wp2_with fail
  refine (isBranch_any 14 _).mono ?_
  rintro e w9 ⟨rfl, rfl⟩
  rw [show brK 14 = false from rfl]
  go_wp2_with fail
  refine (HL.out _).mono ?_
  rintro e w4 ⟨lA, m', rfl, ⟨hml, _, _⟩, hB4⟩
  obtain rfl : m' = 0 := hml
  have HGE := Lib.hid (HG9.out.below ho hB4)
  clear hB4
  go_wp2
  go_loopw [58] (fun i wr => i = .int .i64 0 ∧ wr = w4)
    (fun _ _ => 0)
  case atStart => exact ⟨rfl, rfl⟩
  case round =>
    obtain ⟨rfl, rfl⟩ := hrel
    go_wp2
    refine bodyPost_ret (results_none rfl _ _ _) rfl ?_
    exact ⟨rfl, _, _, _, _, _, HGE.out⟩
end Go.Proofs.Ytmndolojfdekdaa

/-
  Layer 27: the closure that gathers paths: at what is no branch and no return. Made by gen_wyh.py.
-/
namespace Go.Proofs.Ytmndolojfdekdaa
open Go.RowKit Go.Shelf Go.Lib
set_option linter.unusedVariables false
set_option maxRecDepth 100000 in
set_option maxHeartbeats 16000000 in
theorem fol_jump (x : Bxs) (ho : x.ok) (g : Nat → IV) (n : Nat) (hF : Fmd g n) (hv : ∀ i, i < n → (g i).ok) (hk : ∀ i, i < n → okI (g i) = true) (m : Nat) (HIH : FolI x g n m) (i : Nat) (hi : i < n) (p q : Nat) (d : Int) (kk : Nat) (b : Bool) (s : Nat) (w : World) (L : List PV) (ts : List TV) (A : Option Addr) (cA : Nat) (T : Option Addr) (cT : Nat) (S : Nat → Option Addr × Nat) (h : FM x g n w L ts A cA T cT S) (hp : p < 4294967296) (hq : q < 4294967296) (hkk : kk < 4294967296) (hs : s + (n - i) ≤ 100000) (hts : ts.length + (n - i) ≤ 10000) (hKi : kd (g i) = 13) (hm : n - i ≤ m + 1) (hL : L.length + (pF g (m + 1) i p q ts s).length ≤ 100000) :
    Calls Try.prog 70 #[.int .i64 i, .int .i64 s, .agg #[.int .i64 p, .int .u32 q, .int .i64 d, .int .u32 kk, .bool b], .pointer (some ⟨x.P, 0, none⟩), .pointer (some ⟨x.Al, 0, none⟩), .pointer (some ⟨x.Te, 0, none⟩), .pointer (some ⟨x.Fo, 0, none⟩)] w fun e w' => e = .returned (.tuple #[]) ∧ ∃ A' cA' T' cT' S', GS x g n w L A T S w' (L ++ pF g (m + 1) i p q ts s) ts A' cA' T' cT' S' := by
  have hpF : pF g (m + 1) i p q ts s = pF g m (i + 1 + (g i).k) p q ts (s + 1) := by
    show (if kd (g i) = 14 then _ else _) = _
    rw [hKi]
    rfl
  have hnx : nexts (g i) i = [i + 1 + (g i).k] := by
    rw [← nexts_if, hKi]
    rfl
  have hto : i + 1 + (g i).k < n := next_lt hF hi (by rw [hnx]; exact List.mem_singleton.2 rfl)
  obtain ⟨v, hgv⟩ : ∃ v, g i = v := ⟨_, rfl⟩
  have hvo : v.ok := by rw [← hgv]; exact hv i hi
  have hle := hF.le
  have hin : n - i ≥ 1 := by omega
  have hb1 : Below w.heap.size w (w.alloc (.cells #[.int .i64 (p : Int), .int .u32 (q : Int), .int .i64 d, .int .u32 (kk : Int), .bool b] 106)) := (Below.refl _ _).alloc (Nat.le_refl _) _
  have hfm1 := h.below ho hb1
  have e0 := hfm1.pl.cell 0 _ rfl
  have hpc : ∀ j, j < 6 → (w.alloc (.cells #[.int .i64 (p : Int), .int .u32 (q : Int), .int .i64 d, .int .u32 (kk : Int), .bool b] 106)).cell? ⟨x.pb, i * 6 + j, none⟩ = some ((flA v i).getD j undef) := fun j hj => by
    rw [hfm1.pc _ (by omega), fcell_at g i j hj, hgv]
  have q0 : (w.alloc (.cells #[.int .i64 (p : Int), .int .u32 (q : Int), .int .i64 d, .int .u32 (kk : Int), .bool b] 106)).cell? ⟨x.pb, i * 6, none⟩ = some (.int .u16 v.c) := hpc 0 (by decide)
  have q1 : (w.alloc (.cells #[.int .i64 (p : Int), .int .u32 (q : Int), .int .i64 d, .int .u32 (kk : Int), .bool b] 106)).cell? ⟨x.pb, i * 6 + 1, none⟩ = some (.int .u8 v.t) := hpc 1 (by decide)
  have q2 : (w.alloc (.cells #[.int .i64 (p : Int), .int .u32 (q : Int), .int .i64 d, .int .u32 (kk : Int), .bool b] 106)).cell? ⟨x.pb, i * 6 + 2, none⟩ = some (.int .u8 v.f) := hpc 2 (by decide)
  have q3 : (w.alloc (.cells #[.int .i64 (p : Int), .int .u32 (q : Int), .int .i64 d, .int .u32 (kk : Int), .bool b] 106)).cell? ⟨x.pb, i * 6 + 3, none⟩ = some (.int .u32 v.k) := hpc 3 (by decide)
  have q4 : (w.alloc (.cells #[.int .i64 (p : Int), .int .u32 (q : Int), .int .i64 d, .int .u32 (kk : Int), .bool b] 106)).cell? ⟨x.pb, i * 6 + 4, none⟩ = some (.int .i64 13) := by have h4 := hpc 4 (by decide); rw [h4]; show some (Value.int .i64 (kd v)) = _; rw [← hgv, hKi]
  have q5 : (w.alloc (.cells #[.int .i64 (p : Int), .int .u32 (q : Int), .int .i64 d, .int .u32 (kk : Int), .bool b] 106)).cell? ⟨x.pb, i * 6 + 5, none⟩ = some (.int .i64 i) := hpc 5 (by decide)
  have i1 : (0 : Int) ≤ (i : Int) := by omega
  have i2 : (i : Int) < (n : Int) := by omega
  have hb2 : Below w.heap.size w ((w.alloc (.cells #[.int .i64 (p : Int), .int .u32 (q : Int), .int .i64 d, .int .u32 (kk : Int), .bool b] 106)).alloc (.cells #[.int .u16 v.c, .int .u8 v.t, .int .u8 v.f, .int .u32 v.k, .int .i64 13, .int .i64 (i : Int)] 133)) := hb1.alloc hb1.size _
  have HB2 := Lib.hid hb2
  have hra : RowC ((w.alloc (.cells #[.int .i64 (p : Int), .int .u32 (q : Int), .int .i64 d, .int .u32 (kk : Int), .bool b] 106)).alloc (.cells #[.int .u16 v.c, .int .u8 v.t, .int .u8 v.f, .int .u32 v.k, .int .i64 13, .int .i64 (i : Int)] 133)) w.heap.size #[.int .i64 (p : Int), .int .u32 (q : Int), .int .i64 d, .int .u32 (kk : Int), .bool b] 106 := (RowC.new _ _ _ _ rfl).alloc _
  have hrx : RowC ((w.alloc (.cells #[.int .i64 (p : Int), .int .u32 (q : Int), .int .i64 d, .int .u32 (kk : Int), .bool b] 106)).alloc (.cells #[.int .u16 v.c, .int .u8 v.t, .int .u8 v.f, .int .u32 v.k, .int .i64 13, .int .i64 (i : Int)] 133)) (w.heap.size + 1) #[.int .u16 v.c, .int .u8 v.t, .int .u8 v.f, .int .u32 v.k, .int .i64 13, .int .i64 (i : Int)] 133 := RowC.new _ _ _ _ (by simp)
  have HRA := Lib.hid hra
  have HRX := Lib.hid hrx
  have hsz2 : ((w.alloc (.cells #[.int .i64 (p : Int), .int .u32 (q : Int), .int .i64 d, .int .u32 (kk : Int), .bool b] 106)).alloc (.cells #[.int .u16 v.c, .int .u8 v.t, .int .u8 v.f, .int .u32 v.k, .int .i64 13, .int .i64 (i : Int)] 133)).heap.size = w.heap.size + 2 := by simp
  have HSZ := Lib.hid hsz2
  have hlo := h.lo
  have d4 := hrx.cell 4 _ rfl
  have d3 := hrx.cell 3 _ rfl
  clear hra hrx hb1 hb2 hfm1 hpc hsz2
  rw [hgv] at hpF hnx
  rw [hgv] at hto
  have HL : Hid (∀ W, Calls Try.prog 69 #[.agg #[.int .u16 v.c, .int .u8 v.t, .int .u8 v.f, .int .u32 v.k, .int .i64 13, .int .i64 (i : Int)]] W fun e w' => ∃ A m, e = .returned (.slice A m m) ∧ I64s w' W.heap.size A m [i + 1 + v.k] ∧ Below W.heap.size W w') := Lib.hid fun W => by
    have hkv : kd v = 13 := by rw [← hgv]; exact hKi
    have h1 := pleads_any v hvo (by rw [hkv]; decide) i W (by omega)
    rw [hnx] at h1
    simp only [flV, hkv] at h1
    exact h1
  rw [hpF] at hL
  rw [hpF]
  obtain ⟨to, hte⟩ : ∃ to, i + 1 + v.k = to := ⟨_, rfl⟩
  rw [hte] at HL hto hL ⊢
  have hti : i < to := by omega
  have hvk : v.k < 4294967296 := hvo.2.2.2
  have hand : q &&& v.k < 4294967296 := Nat.lt_of_le_of_lt Nat.and_le_left hq
  have hband : bits .and .u32 (q : Int) (v.k : Int) = ((q &&& v.k : Nat) : Int) := u32_and_nat q v.k hq hvk
  have hwk : IntKind.i64.wrap (v.k : Int) = (v.k : Int) := IntWalk.i64_in _ (by omega)
  have hXn : w.heap.size + 1 ≠ w.heap.size := by omega
  have HA3 : Hid (RowC ((w.alloc (.cells #[.int .i64 (p : Int), .int .u32 (q : Int), .int .i64 d, .int .u32 (kk : Int), .bool b] 106)).alloc (.cells #[.int .u16 v.c, .int .u8 v.t, .int .u8 v.f, .int .u32 v.k, .int .i64 13, .int .i64 (i : Int)] 133)) w.heap.size #[.int .i64 (p : Int), .int .u32 (q : Int), .int .i64 d, .int .u32 (kk : Int), .bool b] 106) := Lib.hid ((RowC.new _ _ _ _ rfl).alloc _)
  have HX3 := Lib.hid ((RowC.new _ _ _ (w.heap.size + 1) (by simp) : RowC ((w.alloc (.cells #[.int .i64 (p : Int), .int .u32 (q : Int), .int .i64 d, .int .u32 (kk : Int), .bool b] 106)).alloc (.cells #[.int .u16 v.c, .int .u8 v.t, .int .u8 v.f, .int .u32 v.k, .int .i64 13, .int .i64 (i : Int)] 133)) (w.heap.size + 1) #[.int .u16 v.c, .int .u8 v.t, .int .u8 v.f, .int .u32 v.k, .int .i64 13, .int .i64 (i : Int)] 133))
  have HB3 : Hid (Below w.heap.size w ((w.alloc (.cells #[.int .i64 (p : Int), .int .u32 (q : Int), .int .i64 d, .int .u32 (kk : Int), .bool b] 106)).alloc (.cells #[.int .u16 v.c, .int .u8 v.t, .int .u8 v.f, .int .u32 v.k, .int .i64 13, .int .i64 (i : Int)] 133))) := Lib.hid (((Below.refl _ _).alloc (Nat.le_refl _) _).alloc (by simp) _)
  have a0 := HRA.out.cell 0 _ rfl
  have fa0 := HRA.out.frozen 0
  have a1 := HRA.out.cell 1 _ rfl
  have fa1 := HRA.out.frozen 1
  have a2 := HRA.out.cell 2 _ rfl
  have fa2 := HRA.out.frozen 2
  have a3 := HRA.out.cell 3 _ rfl
  have fa3 := HRA.out.frozen 3
  have a4 := HRA.out.cell 4 _ rfl
  have fa4 := HRA.out.frozen 4
  clear hgv hKi hpF hnx hte
  go_enter Try.func70, Try.ntmps70
  go_wp2_with fail
  obtain ⟨W3, hW3⟩ : ∃ W3, ((w.alloc (.cells #[.int .i64 (p : Int), .int .u32 (q : Int), .int .i64 d, .int .u32 (kk : Int), .bool b] 106)).alloc (.cells #[.int .u16 v.c, .int .u8 v.t, .int .u8 v.f, .int .u32 v.k, .int .i64 13, .int .i64 (i : Int)] 133)) = W3 := ⟨_, rfl⟩
  rw [hW3] at HA3 HX3 HB3 ⊢
  clear hW3 a0 fa0 a1 fa1 a2 fa2 a3 fa3 a4 fa4 e0 q0 q1 q2 q3 q4 q5 d3 d4 HRA HRX HB2
  have HG3 := Lib.hid ((GS.of h).below ho HB3.out)
  have y0 := RowC.cell HX3.out 0 _ rfl
  have y1 := RowC.cell HX3.out 1 _ rfl
  have y2 := RowC.cell HX3.out 2 _ rfl
  have y3 := RowC.cell HX3.out 3 _ rfl
  have y4 := RowC.cell HX3.out 4 _ rfl
  have y5 := RowC.cell HX3.out 5 _ rfl
  refine (isBranch_any 13 _).mono ?_
  rintro e w9 ⟨rfl, rfl⟩
  rw [show brK 13 = false from rfl]
  go_wp2_with fail
  refine (HL.out _).mono ?_
  rintro e w4 ⟨lA, m', rfl, ⟨hml, hcel, _⟩, hB4⟩
  obtain rfl : m' = 1 := hml
  have HG4 := Lib.hid (HG3.out.below ho hB4)
  have HA4 := Lib.hid (HA3.out.below hB4 HA3.out.lt)
  obtain ⟨lb, lof, rfl, hlb, hlc⟩ := hcel.at_ (by decide)
  have l0 := hlc 0 (by decide)
  have l0 : w4.cell? ⟨lb, lof, none⟩ = some (.int .i64 (to : Nat)) := l0
  have fo0 : w4.cell? ⟨x.Fo, 0, none⟩ = some (.func (.func 70) #[] #[.pointer (some ⟨x.P, 0, none⟩), .pointer (some ⟨x.Al, 0, none⟩), .pointer (some ⟨x.Te, 0, none⟩), .pointer (some ⟨x.Fo, 0, none⟩)]) := RowAt.cell HG4.out.fm.fo 0 _ rfl
  have z0 := HA4.out.cell 0 _ rfl
  have z1 := HA4.out.cell 1 _ rfl
  have z2 := HA4.out.cell 2 _ rfl
  have z3 := HA4.out.cell 3 _ rfl
  have z4 := HA4.out.cell 4 _ rfl
  have HR : Hid (Calls Try.prog 70 #[.int .i64 (to : Nat), .int .i64 ((s : Int) + 1), .agg #[.int .i64 (p : Int), .int .u32 (q : Int), .int .i64 d, .int .u32 (kk : Int), .bool b], .pointer (some ⟨x.P, 0, none⟩), .pointer (some ⟨x.Al, 0, none⟩), .pointer (some ⟨x.Te, 0, none⟩), .pointer (some ⟨x.Fo, 0, none⟩)] w4 fun e w' => e = .returned (.tuple #[]) ∧ ∃ A' cA' T' cT' S', GS x g n w4 L A T S w' (L ++ pF g m to p q ts (s + 1)) ts A' cA' T' cT' S') := Lib.hid (HIH to (by omega) hto p q d kk b (s + 1) w4 L ts A cA T cT S HG4.out.fm (by omega) (by omega) (by omega) (by omega) (by omega) hL)
  clear hlc hcel hB4 y0 y1 y2 y3 y4 y5 HX3 HB3 HG3 HA3 HL
  go_wp2
  go_loopw [58] (fun ix wr => (ix = .int .i64 0 ∧ wr = w4) ∨ (ix = .int .i64 1 ∧ ∃ A' cA' T' cT' S', GS x g n w L A T S wr (L ++ pF g m to p q ts (s + 1)) ts A' cA' T' cT' S'))
    (fun ix _ => 1 - (intOf ix).toNat)
  case atStart => exact .inl ⟨rfl, rfl⟩
  case round =>
    rcases hrel with ⟨rfl, rfl⟩ | ⟨rfl, hfin⟩
    · go_wp2_with fail
      refine HR.out.mono ?_
      rintro e w5 ⟨rfl, A', cA', T', cT', S', hk⟩
      have HK := Lib.hid (HG4.out.trans hk)
      clear hk
      go_wp2
      exact ⟨.inr ⟨by go_num, _, _, _, _, _, HK.out⟩, by simp [intOf]⟩
    · have HFIN := Lib.hid hfin
      clear hfin
      go_wp2
      refine bodyPost_ret (results_none rfl _ _ _) rfl ?_
      exact ⟨rfl, HFIN.out⟩
set_option maxRecDepth 100000 in
set_option maxHeartbeats 16000000 in
theorem fol_and (x : Bxs) (ho : x.ok) (g : Nat → IV) (n : Nat) (hF : Fmd g n) (hv : ∀ i, i < n → (g i).ok) (hk : ∀ i, i < n → okI (g i) = true) (m : Nat) (HIH : FolI x g n m) (i : Nat) (hi : i < n) (p q : Nat) (d : Int) (kk : Nat) (b : Bool) (s : Nat) (w : World) (L : List PV) (ts : List TV) (A : Option Addr) (cA : Nat) (T : Option Addr) (cT : Nat) (S : Nat → Option Addr × Nat) (h : FM x g n w L ts A cA T cT S) (hp : p < 4294967296) (hq : q < 4294967296) (hkk : kk < 4294967296) (hs : s + (n - i) ≤ 100000) (hts : ts.length + (n - i) ≤ 10000) (hKi : kd (g i) = 21) (hm : n - i ≤ m + 1) (hL : L.length + (pF g (m + 1) i p q ts s).length ≤ 100000) :
    Calls Try.prog 70 #[.int .i64 i, .int .i64 s, .agg #[.int .i64 p, .int .u32 q, .int .i64 d, .int .u32 kk, .bool b], .pointer (some ⟨x.P, 0, none⟩), .pointer (some ⟨x.Al, 0, none⟩), .pointer (some ⟨x.Te, 0, none⟩), .pointer (some ⟨x.Fo, 0, none⟩)] w fun e w' => e = .returned (.tuple #[]) ∧ ∃ A' cA' T' cT' S', GS x g n w L A T S w' (L ++ pF g (m + 1) i p q ts s) ts A' cA' T' cT' S' := by
  have hpF : pF g (m + 1) i p q ts s = pF g m (i + 1) p (q &&& (g i).k) ts (s + 1) := by
    show (if kd (g i) = 14 then _ else _) = _
    rw [hKi]
    rfl
  have hnx : nexts (g i) i = [i + 1] := by
    rw [← nexts_if, hKi]
    rfl
  have hto : i + 1 < n := next_lt hF hi (by rw [hnx]; exact List.mem_singleton.2 rfl)
  obtain ⟨v, hgv⟩ : ∃ v, g i = v := ⟨_, rfl⟩
  have hvo : v.ok := by rw [← hgv]; exact hv i hi
  have hle := hF.le
  have hin : n - i ≥ 1 := by omega
  have hb1 : Below w.heap.size w (w.alloc (.cells #[.int .i64 (p : Int), .int .u32 (q : Int), .int .i64 d, .int .u32 (kk : Int), .bool b] 106)) := (Below.refl _ _).alloc (Nat.le_refl _) _
  have hfm1 := h.below ho hb1
  have e0 := hfm1.pl.cell 0 _ rfl
  have hpc : ∀ j, j < 6 → (w.alloc (.cells #[.int .i64 (p : Int), .int .u32 (q : Int), .int .i64 d, .int .u32 (kk : Int), .bool b] 106)).cell? ⟨x.pb, i * 6 + j, none⟩ = some ((flA v i).getD j undef) := fun j hj => by
    rw [hfm1.pc _ (by omega), fcell_at g i j hj, hgv]
  have q0 : (w.alloc (.cells #[.int .i64 (p : Int), .int .u32 (q : Int), .int .i64 d, .int .u32 (kk : Int), .bool b] 106)).cell? ⟨x.pb, i * 6, none⟩ = some (.int .u16 v.c) := hpc 0 (by decide)
  have q1 : (w.alloc (.cells #[.int .i64 (p : Int), .int .u32 (q : Int), .int .i64 d, .int .u32 (kk : Int), .bool b] 106)).cell? ⟨x.pb, i * 6 + 1, none⟩ = some (.int .u8 v.t) := hpc 1 (by decide)
  have q2 : (w.alloc (.cells #[.int .i64 (p : Int), .int .u32 (q : Int), .int .i64 d, .int .u32 (kk : Int), .bool b] 106)).cell? ⟨x.pb, i * 6 + 2, none⟩ = some (.int .u8 v.f) := hpc 2 (by decide)
  have q3 : (w.alloc (.cells #[.int .i64 (p : Int), .int .u32 (q : Int), .int .i64 d, .int .u32 (kk : Int), .bool b] 106)).cell? ⟨x.pb, i * 6 + 3, none⟩ = some (.int .u32 v.k) := hpc 3 (by decide)
  have q4 : (w.alloc (.cells #[.int .i64 (p : Int), .int .u32 (q : Int), .int .i64 d, .int .u32 (kk : Int), .bool b] 106)).cell? ⟨x.pb, i * 6 + 4, none⟩ = some (.int .i64 21) := by have h4 := hpc 4 (by decide); rw [h4]; show some (Value.int .i64 (kd v)) = _; rw [← hgv, hKi]
  have q5 : (w.alloc (.cells #[.int .i64 (p : Int), .int .u32 (q : Int), .int .i64 d, .int .u32 (kk : Int), .bool b] 106)).cell? ⟨x.pb, i * 6 + 5, none⟩ = some (.int .i64 i) := hpc 5 (by decide)
  have i1 : (0 : Int) ≤ (i : Int) := by omega
  have i2 : (i : Int) < (n : Int) := by omega
  have hb2 : Below w.heap.size w ((w.alloc (.cells #[.int .i64 (p : Int), .int .u32 (q : Int), .int .i64 d, .int .u32 (kk : Int), .bool b] 106)).alloc (.cells #[.int .u16 v.c, .int .u8 v.t, .int .u8 v.f, .int .u32 v.k, .int .i64 21, .int .i64 (i : Int)] 133)) := hb1.alloc hb1.size _
  have HB2 := Lib.hid hb2
  have hra : RowC ((w.alloc (.cells #[.int .i64 (p : Int), .int .u32 (q : Int), .int .i64 d, .int .u32 (kk : Int), .bool b] 106)).alloc (.cells #[.int .u16 v.c, .int .u8 v.t, .int .u8 v.f, .int .u32 v.k, .int .i64 21, .int .i64 (i : Int)] 133)) w.heap.size #[.int .i64 (p : Int), .int .u32 (q : Int), .int .i64 d, .int .u32 (kk : Int), .bool b] 106 := (RowC.new _ _ _ _ rfl).alloc _
  have hrx : RowC ((w.alloc (.cells #[.int .i64 (p : Int), .int .u32 (q : Int), .int .i64 d, .int .u32 (kk : Int), .bool b] 106)).alloc (.cells #[.int .u16 v.c, .int .u8 v.t, .int .u8 v.f, .int .u32 v.k, .int .i64 21, .int .i64 (i : Int)] 133)) (w.heap.size + 1) #[.int .u16 v.c, .int .u8 v.t, .int .u8 v.f, .int .u32 v.k, .int .i64 21, .int .i64 (i : Int)] 133 := RowC.new _ _ _ _ (by simp)
  have HRA := Lib.hid hra
  have HRX := Lib.hid hrx
  have hsz2 : ((w.alloc (.cells #[.int .i64 (p : Int), .int .u32 (q : Int), .int .i64 d, .int .u32 (kk : Int), .bool b] 106)).alloc (.cells #[.int .u16 v.c, .int .u8 v.t, .int .u8 v.f, .int .u32 v.k, .int .i64 21, .int .i64 (i : Int)] 133)).heap.size = w.heap.size + 2 := by simp
  have HSZ := Lib.hid hsz2
  have hlo := h.lo
  have d4 := hrx.cell 4 _ rfl
  have d3 := hrx.cell 3 _ rfl
  clear hra hrx hb1 hb2 hfm1 hpc hsz2
  rw [hgv] at hpF hnx
  have HL : Hid (∀ W, Calls Try.prog 69 #[.agg #[.int .u16 v.c, .int .u8 v.t, .int .u8 v.f, .int .u32 v.k, .int .i64 21, .int .i64 (i : Int)]] W fun e w' => ∃ A m, e = .returned (.slice A m m) ∧ I64s w' W.heap.size A m [i + 1] ∧ Below W.heap.size W w') := Lib.hid fun W => by
    have hkv : kd v = 21 := by rw [← hgv]; exact hKi
    have h1 := pleads_any v hvo (by rw [hkv]; decide) i W (by omega)
    rw [hnx] at h1
    simp only [flV, hkv] at h1
    exact h1
  rw [hpF] at hL
  rw [hpF]
  obtain ⟨to, hte⟩ : ∃ to, i + 1 = to := ⟨_, rfl⟩
  rw [hte] at HL hto hL ⊢
  have hti : i < to := by omega
  have hvk : v.k < 4294967296 := hvo.2.2.2
  have hand : q &&& v.k < 4294967296 := Nat.lt_of_le_of_lt Nat.and_le_left hq
  have hband : bits .and .u32 (q : Int) (v.k : Int) = ((q &&& v.k : Nat) : Int) := u32_and_nat q v.k hq hvk
  have hwk : IntKind.i64.wrap (v.k : Int) = (v.k : Int) := IntWalk.i64_in _ (by omega)
  have hXn : w.heap.size + 1 ≠ w.heap.size := by omega
  have HA3 : Hid (RowC ((w.alloc (.cells #[.int .i64 (p : Int), .int .u32 ((q &&& v.k : Nat) : Int), .int .i64 d, .int .u32 (kk : Int), .bool b] 106)).alloc (.cells #[.int .u16 v.c, .int .u8 v.t, .int .u8 v.f, .int .u32 v.k, .int .i64 21, .int .i64 (i : Int)] 133)) w.heap.size #[.int .i64 (p : Int), .int .u32 ((q &&& v.k : Nat) : Int), .int .i64 d, .int .u32 (kk : Int), .bool b] 106) := Lib.hid ((RowC.new _ _ _ _ rfl).alloc _)
  have HX3 := Lib.hid ((RowC.new _ _ _ (w.heap.size + 1) (by simp) : RowC ((w.alloc (.cells #[.int .i64 (p : Int), .int .u32 ((q &&& v.k : Nat) : Int), .int .i64 d, .int .u32 (kk : Int), .bool b] 106)).alloc (.cells #[.int .u16 v.c, .int .u8 v.t, .int .u8 v.f, .int .u32 v.k, .int .i64 21, .int .i64 (i : Int)] 133)) (w.heap.size + 1) #[.int .u16 v.c, .int .u8 v.t, .int .u8 v.f, .int .u32 v.k, .int .i64 21, .int .i64 (i : Int)] 133))
  have HB3 : Hid (Below w.heap.size w ((w.alloc (.cells #[.int .i64 (p : Int), .int .u32 ((q &&& v.k : Nat) : Int), .int .i64 d, .int .u32 (kk : Int), .bool b] 106)).alloc (.cells #[.int .u16 v.c, .int .u8 v.t, .int .u8 v.f, .int .u32 v.k, .int .i64 21, .int .i64 (i : Int)] 133))) := Lib.hid (((Below.refl _ _).alloc (Nat.le_refl _) _).alloc (by simp) _)
  have a0 := HRA.out.cell 0 _ rfl
  have fa0 := HRA.out.frozen 0
  have a1 := HRA.out.cell 1 _ rfl
  have fa1 := HRA.out.frozen 1
  have a2 := HRA.out.cell 2 _ rfl
  have fa2 := HRA.out.frozen 2
  have a3 := HRA.out.cell 3 _ rfl
  have fa3 := HRA.out.frozen 3
  have a4 := HRA.out.cell 4 _ rfl
  have fa4 := HRA.out.frozen 4
  clear hgv hKi hpF hnx hte
  go_enter Try.func70, Try.ntmps70
  go_wp2_with fail
  obtain ⟨W3, hW3⟩ : ∃ W3, ((w.alloc (.cells #[.int .i64 (p : Int), .int .u32 ((q &&& v.k : Nat) : Int), .int .i64 d, .int .u32 (kk : Int), .bool b] 106)).alloc (.cells #[.int .u16 v.c, .int .u8 v.t, .int .u8 v.f, .int .u32 v.k, .int .i64 21, .int .i64 (i : Int)] 133)) = W3 := ⟨_, rfl⟩
  rw [hW3] at HA3 HX3 HB3 ⊢
  clear hW3 a0 fa0 a1 fa1 a2 fa2 a3 fa3 a4 fa4 e0 q0 q1 q2 q3 q4 q5 d3 d4 HRA HRX HB2
  have HG3 := Lib.hid ((GS.of h).below ho HB3.out)
  have y0 := RowC.cell HX3.out 0 _ rfl
  have y1 := RowC.cell HX3.out 1 _ rfl
  have y2 := RowC.cell HX3.out 2 _ rfl
  have y3 := RowC.cell HX3.out 3 _ rfl
  have y4 := RowC.cell HX3.out 4 _ rfl
  have y5 := RowC.cell HX3.out 5 _ rfl
  refine (isBranch_any 21 _).mono ?_
  rintro e w9 ⟨rfl, rfl⟩
  rw [show brK 21 = false from rfl]
  go_wp2_with fail
  refine (HL.out _).mono ?_
  rintro e w4 ⟨lA, m', rfl, ⟨hml, hcel, _⟩, hB4⟩
  obtain rfl : m' = 1 := hml
  have HG4 := Lib.hid (HG3.out.below ho hB4)
  have HA4 := Lib.hid (HA3.out.below hB4 HA3.out.lt)
  obtain ⟨lb, lof, rfl, hlb, hlc⟩ := hcel.at_ (by decide)
  have l0 := hlc 0 (by decide)
  have l0 : w4.cell? ⟨lb, lof, none⟩ = some (.int .i64 (to : Nat)) := l0
  have fo0 : w4.cell? ⟨x.Fo, 0, none⟩ = some (.func (.func 70) #[] #[.pointer (some ⟨x.P, 0, none⟩), .pointer (some ⟨x.Al, 0, none⟩), .pointer (some ⟨x.Te, 0, none⟩), .pointer (some ⟨x.Fo, 0, none⟩)]) := RowAt.cell HG4.out.fm.fo 0 _ rfl
  have z0 := HA4.out.cell 0 _ rfl
  have z1 := HA4.out.cell 1 _ rfl
  have z2 := HA4.out.cell 2 _ rfl
  have z3 := HA4.out.cell 3 _ rfl
  have z4 := HA4.out.cell 4 _ rfl
  have HR : Hid (Calls Try.prog 70 #[.int .i64 (to : Nat), .int .i64 ((s : Int) + 1), .agg #[.int .i64 (p : Int), .int .u32 ((q &&& v.k : Nat) : Int), .int .i64 d, .int .u32 (kk : Int), .bool b], .pointer (some ⟨x.P, 0, none⟩), .pointer (some ⟨x.Al, 0, none⟩), .pointer (some ⟨x.Te, 0, none⟩), .pointer (some ⟨x.Fo, 0, none⟩)] w4 fun e w' => e = .returned (.tuple #[]) ∧ ∃ A' cA' T' cT' S', GS x g n w4 L A T S w' (L ++ pF g m to p (q &&& v.k) ts (s + 1)) ts A' cA' T' cT' S') := Lib.hid (HIH to (by omega) hto p (q &&& v.k) d kk b (s + 1) w4 L ts A cA T cT S HG4.out.fm (by omega) (by omega) (by omega) (by omega) (by omega) hL)
  clear hlc hcel hB4 y0 y1 y2 y3 y4 y5 HX3 HB3 HG3 HA3 HL
  go_wp2
  go_loopw [58] (fun ix wr => (ix = .int .i64 0 ∧ wr = w4) ∨ (ix = .int .i64 1 ∧ ∃ A' cA' T' cT' S', GS x g n w L A T S wr (L ++ pF g m to p (q &&& v.k) ts (s + 1)) ts A' cA' T' cT' S'))
    (fun ix _ => 1 - (intOf ix).toNat)
  case atStart => exact .inl ⟨rfl, rfl⟩
  case round =>
    rcases hrel with ⟨rfl, rfl⟩ | ⟨rfl, hfin⟩
    · go_wp2_with fail
      refine HR.out.mono ?_
      rintro e w5 ⟨rfl, A', cA', T', cT', S', hk⟩
      have HK := Lib.hid (HG4.out.trans hk)
      clear hk
      go_wp2
      exact ⟨.inr ⟨by go_num, _, _, _, _, _, HK.out⟩, by simp [intOf]⟩
    · have HFIN := Lib.hid hfin
      clear hfin
      go_wp2
      refine bodyPost_ret (results_none rfl _ _ _) rfl ?_
      exact ⟨rfl, HFIN.out⟩
set_option maxRecDepth 100000 in
set_option maxHeartbeats 16000000 in
theorem fol_load (x : Bxs) (ho : x.ok) (g : Nat → IV) (n : Nat) (hF : Fmd g n) (hv : ∀ i, i < n → (g i).ok) (hk : ∀ i, i < n → okI (g i) = true) (m : Nat) (HIH : FolI x g n m) (i : Nat) (hi : i < n) (p q : Nat) (d : Int) (kk : Nat) (b : Bool) (s : Nat) (w : World) (L : List PV) (ts : List TV) (A : Option Addr) (cA : Nat) (T : Option Addr) (cT : Nat) (S : Nat → Option Addr × Nat) (h : FM x g n w L ts A cA T cT S) (hp : p < 4294967296) (hq : q < 4294967296) (hkk : kk < 4294967296) (hs : s + (n - i) ≤ 100000) (hts : ts.length + (n - i) ≤ 10000) (hKi : kd (g i) = 1) (hm : n - i ≤ m + 1) (hL : L.length + (pF g (m + 1) i p q ts s).length ≤ 100000) :
    Calls Try.prog 70 #[.int .i64 i, .int .i64 s, .agg #[.int .i64 p, .int .u32 q, .int .i64 d, .int .u32 kk, .bool b], .pointer (some ⟨x.P, 0, none⟩), .pointer (some ⟨x.Al, 0, none⟩), .pointer (some ⟨x.Te, 0, none⟩), .pointer (some ⟨x.Fo, 0, none⟩)] w fun e w' => e = .returned (.tuple #[]) ∧ ∃ A' cA' T' cT' S', GS x g n w L A T S w' (L ++ pF g (m + 1) i p q ts s) ts A' cA' T' cT' S' := by
  have hpF : pF g (m + 1) i p q ts s = pF g m (i + 1) (g i).k 4294967295 ts (s + 1) := by
    show (if kd (g i) = 14 then _ else _) = _
    rw [hKi]
    rfl
  have hnx : nexts (g i) i = [i + 1] := by
    rw [← nexts_if, hKi]
    rfl
  have hto : i + 1 < n := next_lt hF hi (by rw [hnx]; exact List.mem_singleton.2 rfl)
  obtain ⟨v, hgv⟩ : ∃ v, g i = v := ⟨_, rfl⟩
  have hvo : v.ok := by rw [← hgv]; exact hv i hi
  have hle := hF.le
  have hin : n - i ≥ 1 := by omega
  have hb1 : Below w.heap.size w (w.alloc (.cells #[.int .i64 (p : Int), .int .u32 (q : Int), .int .i64 d, .int .u32 (kk : Int), .bool b] 106)) := (Below.refl _ _).alloc (Nat.le_refl _) _
  have hfm1 := h.below ho hb1
  have e0 := hfm1.pl.cell 0 _ rfl
  have hpc : ∀ j, j < 6 → (w.alloc (.cells #[.int .i64 (p : Int), .int .u32 (q : Int), .int .i64 d, .int .u32 (kk : Int), .bool b] 106)).cell? ⟨x.pb, i * 6 + j, none⟩ = some ((flA v i).getD j undef) := fun j hj => by
    rw [hfm1.pc _ (by omega), fcell_at g i j hj, hgv]
  have q0 : (w.alloc (.cells #[.int .i64 (p : Int), .int .u32 (q : Int), .int .i64 d, .int .u32 (kk : Int), .bool b] 106)).cell? ⟨x.pb, i * 6, none⟩ = some (.int .u16 v.c) := hpc 0 (by decide)
  have q1 : (w.alloc (.cells #[.int .i64 (p : Int), .int .u32 (q : Int), .int .i64 d, .int .u32 (kk : Int), .bool b] 106)).cell? ⟨x.pb, i * 6 + 1, none⟩ = some (.int .u8 v.t) := hpc 1 (by decide)
  have q2 : (w.alloc (.cells #[.int .i64 (p : Int), .int .u32 (q : Int), .int .i64 d, .int .u32 (kk : Int), .bool b] 106)).cell? ⟨x.pb, i * 6 + 2, none⟩ = some (.int .u8 v.f) := hpc 2 (by decide)
  have q3 : (w.alloc (.cells #[.int .i64 (p : Int), .int .u32 (q : Int), .int .i64 d, .int .u32 (kk : Int), .bool b] 106)).cell? ⟨x.pb, i * 6 + 3, none⟩ = some (.int .u32 v.k) := hpc 3 (by decide)
  have q4 : (w.alloc (.cells #[.int .i64 (p : Int), .int .u32 (q : Int), .int .i64 d, .int .u32 (kk : Int), .bool b] 106)).cell? ⟨x.pb, i * 6 + 4, none⟩ = some (.int .i64 1) := by have h4 := hpc 4 (by decide); rw [h4]; show some (Value.int .i64 (kd v)) = _; rw [← hgv, hKi]
  have q5 : (w.alloc (.cells #[.int .i64 (p : Int), .int .u32 (q : Int), .int .i64 d, .int .u32 (kk : Int), .bool b] 106)).cell? ⟨x.pb, i * 6 + 5, none⟩ = some (.int .i64 i) := hpc 5 (by decide)
  have i1 : (0 : Int) ≤ (i : Int) := by omega
  have i2 : (i : Int) < (n : Int) := by omega
  have hb2 : Below w.heap.size w ((w.alloc (.cells #[.int .i64 (p : Int), .int .u32 (q : Int), .int .i64 d, .int .u32 (kk : Int), .bool b] 106)).alloc (.cells #[.int .u16 v.c, .int .u8 v.t, .int .u8 v.f, .int .u32 v.k, .int .i64 1, .int .i64 (i : Int)] 133)) := hb1.alloc hb1.size _
  have HB2 := Lib.hid hb2
  have hra : RowC ((w.alloc (.cells #[.int .i64 (p : Int), .int .u32 (q : Int), .int .i64 d, .int .u32 (kk : Int), .bool b] 106)).alloc (.cells #[.int .u16 v.c, .int .u8 v.t, .int .u8 v.f, .int .u32 v.k, .int .i64 1, .int .i64 (i : Int)] 133)) w.heap.size #[.int .i64 (p : Int), .int .u32 (q : Int), .int .i64 d, .int .u32 (kk : Int), .bool b] 106 := (RowC.new _ _ _ _ rfl).alloc _
  have hrx : RowC ((w.alloc (.cells #[.int .i64 (p : Int), .int .u32 (q : Int), .int .i64 d, .int .u32 (kk : Int), .bool b] 106)).alloc (.cells #[.int .u16 v.c, .int .u8 v.t, .int .u8 v.f, .int .u32 v.k, .int .i64 1, .int .i64 (i : Int)] 133)) (w.heap.size + 1) #[.int .u16 v.c, .int .u8 v.t, .int .u8 v.f, .int .u32 v.k, .int .i64 1, .int .i64 (i : Int)] 133 := RowC.new _ _ _ _ (by simp)
  have HRA := Lib.hid hra
  have HRX := Lib.hid hrx
  have hsz2 : ((w.alloc (.cells #[.int .i64 (p : Int), .int .u32 (q : Int), .int .i64 d, .int .u32 (kk : Int), .bool b] 106)).alloc (.cells #[.int .u16 v.c, .int .u8 v.t, .int .u8 v.f, .int .u32 v.k, .int .i64 1, .int .i64 (i : Int)] 133)).heap.size = w.heap.size + 2 := by simp
  have HSZ := Lib.hid hsz2
  have hlo := h.lo
  have d4 := hrx.cell 4 _ rfl
  have d3 := hrx.cell 3 _ rfl
  clear hra hrx hb1 hb2 hfm1 hpc hsz2
  rw [hgv] at hpF hnx
  have HL : Hid (∀ W, Calls Try.prog 69 #[.agg #[.int .u16 v.c, .int .u8 v.t, .int .u8 v.f, .int .u32 v.k, .int .i64 1, .int .i64 (i : Int)]] W fun e w' => ∃ A m, e = .returned (.slice A m m) ∧ I64s w' W.heap.size A m [i + 1] ∧ Below W.heap.size W w') := Lib.hid fun W => by
    have hkv : kd v = 1 := by rw [← hgv]; exact hKi
    have h1 := pleads_any v hvo (by rw [hkv]; decide) i W (by omega)
    rw [hnx] at h1
    simp only [flV, hkv] at h1
    exact h1
  rw [hpF] at hL
  rw [hpF]
  obtain ⟨to, hte⟩ : ∃ to, i + 1 = to := ⟨_, rfl⟩
  rw [hte] at HL hto hL ⊢
  have hti : i < to := by omega
  have hvk : v.k < 4294967296 := hvo.2.2.2
  have hand : q &&& v.k < 4294967296 := Nat.lt_of_le_of_lt Nat.and_le_left hq
  have hband : bits .and .u32 (q : Int) (v.k : Int) = ((q &&& v.k : Nat) : Int) := u32_and_nat q v.k hq hvk
  have hwk : IntKind.i64.wrap (v.k : Int) = (v.k : Int) := IntWalk.i64_in _ (by omega)
  have hXn : w.heap.size + 1 ≠ w.heap.size := by omega
  have HA3 : Hid (RowC ((w.alloc (.cells #[.int .i64 (v.k : Int), .int .u32 4294967295, .int .i64 0, .int .u32 0, .bool false] 106)).alloc (.cells #[.int .u16 v.c, .int .u8 v.t, .int .u8 v.f, .int .u32 v.k, .int .i64 1, .int .i64 (i : Int)] 133)) w.heap.size #[.int .i64 (v.k : Int), .int .u32 4294967295, .int .i64 0, .int .u32 0, .bool false] 106) := Lib.hid ((RowC.new _ _ _ _ rfl).alloc _)
  have HX3 := Lib.hid ((RowC.new _ _ _ (w.heap.size + 1) (by simp) : RowC ((w.alloc (.cells #[.int .i64 (v.k : Int), .int .u32 4294967295, .int .i64 0, .int .u32 0, .bool false] 106)).alloc (.cells #[.int .u16 v.c, .int .u8 v.t, .int .u8 v.f, .int .u32 v.k, .int .i64 1, .int .i64 (i : Int)] 133)) (w.heap.size + 1) #[.int .u16 v.c, .int .u8 v.t, .int .u8 v.f, .int .u32 v.k, .int .i64 1, .int .i64 (i : Int)] 133))
  have HB3 : Hid (Below w.heap.size w ((w.alloc (.cells #[.int .i64 (v.k : Int), .int .u32 4294967295, .int .i64 0, .int .u32 0, .bool false] 106)).alloc (.cells #[.int .u16 v.c, .int .u8 v.t, .int .u8 v.f, .int .u32 v.k, .int .i64 1, .int .i64 (i : Int)] 133))) := Lib.hid (((Below.refl _ _).alloc (Nat.le_refl _) _).alloc (by simp) _)
  have a0 := HRA.out.cell 0 _ rfl
  have fa0 := HRA.out.frozen 0
  have a1 := HRA.out.cell 1 _ rfl
  have fa1 := HRA.out.frozen 1
  have a2 := HRA.out.cell 2 _ rfl
  have fa2 := HRA.out.frozen 2
  have a3 := HRA.out.cell 3 _ rfl
  have fa3 := HRA.out.frozen 3
  have a4 := HRA.out.cell 4 _ rfl
  have fa4 := HRA.out.frozen 4
  clear hgv hKi hpF hnx hte
  go_enter Try.func70, Try.ntmps70
  go_wp2_with fail
  obtain ⟨W3, hW3⟩ : ∃ W3, ((w.alloc (.cells #[.int .i64 (v.k : Int), .int .u32 4294967295, .int .i64 0, .int .u32 0, .bool false] 106)).alloc (.cells #[.int .u16 v.c, .int .u8 v.t, .int .u8 v.f, .int .u32 v.k, .int .i64 1, .int .i64 (i : Int)] 133)) = W3 := ⟨_, rfl⟩
  rw [hW3] at HA3 HX3 HB3 ⊢
  clear hW3 a0 fa0 a1 fa1 a2 fa2 a3 fa3 a4 fa4 e0 q0 q1 q2 q3 q4 q5 d3 d4 HRA HRX HB2
  have HG3 := Lib.hid ((GS.of h).below ho HB3.out)
  have y0 := RowC.cell HX3.out 0 _ rfl
  have y1 := RowC.cell HX3.out 1 _ rfl
  have y2 := RowC.cell HX3.out 2 _ rfl
  have y3 := RowC.cell HX3.out 3 _ rfl
  have y4 := RowC.cell HX3.out 4 _ rfl
  have y5 := RowC.cell HX3.out 5 _ rfl
  refine (isBranch_any 1 _).mono ?_
  rintro e w9 ⟨rfl, rfl⟩
  rw [show brK 1 = false from rfl]
  go_wp2_with fail
  refine (HL.out _).mono ?_
  rintro e w4 ⟨lA, m', rfl, ⟨hml, hcel, _⟩, hB4⟩
  obtain rfl : m' = 1 := hml
  have HG4 := Lib.hid (HG3.out.below ho hB4)
  have HA4 := Lib.hid (HA3.out.below hB4 HA3.out.lt)
  obtain ⟨lb, lof, rfl, hlb, hlc⟩ := hcel.at_ (by decide)
  have l0 := hlc 0 (by decide)
  have l0 : w4.cell? ⟨lb, lof, none⟩ = some (.int .i64 (to : Nat)) := l0
  have fo0 : w4.cell? ⟨x.Fo, 0, none⟩ = some (.func (.func 70) #[] #[.pointer (some ⟨x.P, 0, none⟩), .pointer (some ⟨x.Al, 0, none⟩), .pointer (some ⟨x.Te, 0, none⟩), .pointer (some ⟨x.Fo, 0, none⟩)]) := RowAt.cell HG4.out.fm.fo 0 _ rfl
  have z0 := HA4.out.cell 0 _ rfl
  have z1 := HA4.out.cell 1 _ rfl
  have z2 := HA4.out.cell 2 _ rfl
  have z3 := HA4.out.cell 3 _ rfl
  have z4 := HA4.out.cell 4 _ rfl
  have HR : Hid (Calls Try.prog 70 #[.int .i64 (to : Nat), .int .i64 ((s : Int) + 1), .agg #[.int .i64 (v.k : Int), .int .u32 4294967295, .int .i64 0, .int .u32 0, .bool false], .pointer (some ⟨x.P, 0, none⟩), .pointer (some ⟨x.Al, 0, none⟩), .pointer (some ⟨x.Te, 0, none⟩), .pointer (some ⟨x.Fo, 0, none⟩)] w4 fun e w' => e = .returned (.tuple #[]) ∧ ∃ A' cA' T' cT' S', GS x g n w4 L A T S w' (L ++ pF g m to v.k 4294967295 ts (s + 1)) ts A' cA' T' cT' S') := Lib.hid (HIH to (by omega) hto v.k 4294967295 0 0 false (s + 1) w4 L ts A cA T cT S HG4.out.fm (by omega) (by omega) (by omega) (by omega) (by omega) hL)
  clear hlc hcel hB4 y0 y1 y2 y3 y4 y5 HX3 HB3 HG3 HA3 HL
  go_wp2
  go_loopw [58] (fun ix wr => (ix = .int .i64 0 ∧ wr = w4) ∨ (ix = .int .i64 1 ∧ ∃ A' cA' T' cT' S', GS x g n w L A T S wr (L ++ pF g m to v.k 4294967295 ts (s + 1)) ts A' cA' T' cT' S'))
    (fun ix _ => 1 - (intOf ix).toNat)
  case atStart => exact .inl ⟨rfl, rfl⟩
  case round =>
    rcases hrel with ⟨rfl, rfl⟩ | ⟨rfl, hfin⟩
    · go_wp2_with fail
      refine HR.out.mono ?_
      rintro e w5 ⟨rfl, A', cA', T', cT', S', hk⟩
      have HK := Lib.hid (HG4.out.trans hk)
      clear hk
      go_wp2
      exact ⟨.inr ⟨by go_num, _, _, _, _, _, HK.out⟩, by simp [intOf]⟩
    · have HFIN := Lib.hid hfin
      clear hfin
      go_wp2
      refine bodyPost_ret (results_none rfl _ _ _) rfl ?_
      exact ⟨rfl, HFIN.out⟩
end Go.Proofs.Ytmndolojfdekdaa

/-
  Layer 27: the closure that gathers paths: at a branch. Made by gen_wyi.py.
-/
namespace Go.Proofs.Ytmndolojfdekdaa
open Go.RowKit Go.Shelf
set_option linter.unusedVariables false
theorem one_tb (w : World) (x : TV) (E : TypeId) (b : Nat) (hb : b = w.heap.size) : Cel (w.alloc (.cells #[.int .i64 x.p, .int .u32 x.m, .int .i64 x.d, .int .u32 x.k, .bool x.s] E)) (w.heap.size + 1) 5 (some ⟨b, 0, none⟩) 1 1 (tscell fun _ => x) := by
  subst hb
  exact one_test w x E
set_option maxRecDepth 100000 in
set_option maxHeartbeats 16000000 in
theorem fol_br (x : Bxs) (ho : x.ok) (g : Nat → IV) (n : Nat) (hF : Fmd g n) (hv : ∀ i, i < n → (g i).ok) (hk : ∀ i, i < n → okI (g i) = true) (m : Nat) (HIH : FolI x g n m) (i : Nat) (hi : i < n) (p q : Nat) (d : Int) (kk : Nat) (b : Bool) (s : Nat) (w : World) (L : List PV) (ts : List TV) (A : Option Addr) (cA : Nat) (T : Option Addr) (cT : Nat) (S : Nat → Option Addr × Nat) (h : FM x g n w L ts A cA T cT S) (hp : p < 4294967296) (hq : q < 4294967296) (hkk : kk < 4294967296) (hs : s + (n - i) ≤ 100000) (hts : ts.length + (n - i) ≤ 10000) (hKi : brK (kd (g i)) = true) (hm : n - i ≤ m + 1) (hL : L.length + (pF g (m + 1) i p q ts s).length ≤ 100000) :
    Calls Try.prog 70 #[.int .i64 i, .int .i64 s, .agg #[.int .i64 p, .int .u32 q, .int .i64 d, .int .u32 kk, .bool b], .pointer (some ⟨x.P, 0, none⟩), .pointer (some ⟨x.Al, 0, none⟩), .pointer (some ⟨x.Te, 0, none⟩), .pointer (some ⟨x.Fo, 0, none⟩)] w fun e w' => e = .returned (.tuple #[]) ∧ ∃ A' cA' T' cT' S', GS x g n w L A T S w' (L ++ pF g (m + 1) i p q ts s) ts A' cA' T' cT' S' := by
  have hn : ∀ z : Int, (z = 14 ∨ z = 15 ∨ z = 13 ∨ z = 1 ∨ z = 21) → kd (g i) ≠ z := fun z hz e => by
    rw [e] at hKi
    rcases hz with rfl | rfl | rfl | rfl | rfl <;> exact absurd hKi (by decide)
  have hpF : pF g (m + 1) i p q ts s = pF g m (i + 1 + (g i).t) p q (ts ++ [⟨(p : Int), q, kd (g i), (g i).k, true⟩]) (s + 1) ++ pF g m (i + 1 + (g i).f) p q (ts ++ [⟨(p : Int), q, kd (g i), (g i).k, false⟩]) (s + 1) := by
    show (if kd (g i) = 14 then _ else _) = _
    rw [if_neg (hn 14 (by simp)), if_pos hKi]
  have hnx : nexts (g i) i = [i + 1 + (g i).t, i + 1 + (g i).f] := by
    rw [← nexts_if]
    unfold nextsK
    have hb : (kd (g i) == 25 || kd (g i) == 26 || kd (g i) == 27 || kd (g i) == 28) = true := hKi
    rw [if_neg (by simp [hn 14 (by simp), hn 15 (by simp)]), if_neg (by simp [hn 13 (by simp)]), if_pos hb]
  have hto1 : i + 1 + (g i).t < n := next_lt hF hi (by rw [hnx]; simp)
  have hto2 : i + 1 + (g i).f < n := next_lt hF hi (by rw [hnx]; simp)
  obtain ⟨v, hgv⟩ : ∃ v, g i = v := ⟨_, rfl⟩
  obtain ⟨Kv, hKe⟩ : ∃ z, kd v = z := ⟨_, rfl⟩
  have hvo : v.ok := by rw [← hgv]; exact hv i hi
  have hle := hF.le
  have hin : n - i ≥ 1 := by omega
  have hb1 : Below w.heap.size w (w.alloc (.cells #[.int .i64 (p : Int), .int .u32 (q : Int), .int .i64 d, .int .u32 (kk : Int), .bool b] 106)) := (Below.refl _ _).alloc (Nat.le_refl _) _
  have hfm1 := h.below ho hb1
  have e0 := hfm1.pl.cell 0 _ rfl
  have hpc : ∀ j, j < 6 → (w.alloc (.cells #[.int .i64 (p : Int), .int .u32 (q : Int), .int .i64 d, .int .u32 (kk : Int), .bool b] 106)).cell? ⟨x.pb, i * 6 + j, none⟩ = some ((flA v i).getD j undef) := fun j hj => by
    rw [hfm1.pc _ (by omega), fcell_at g i j hj, hgv]
  have q0 : (w.alloc (.cells #[.int .i64 (p : Int), .int .u32 (q : Int), .int .i64 d, .int .u32 (kk : Int), .bool b] 106)).cell? ⟨x.pb, i * 6, none⟩ = some (.int .u16 v.c) := hpc 0 (by decide)
  have q1 : (w.alloc (.cells #[.int .i64 (p : Int), .int .u32 (q : Int), .int .i64 d, .int .u32 (kk : Int), .bool b] 106)).cell? ⟨x.pb, i * 6 + 1, none⟩ = some (.int .u8 v.t) := hpc 1 (by decide)
  have q2 : (w.alloc (.cells #[.int .i64 (p : Int), .int .u32 (q : Int), .int .i64 d, .int .u32 (kk : Int), .bool b] 106)).cell? ⟨x.pb, i * 6 + 2, none⟩ = some (.int .u8 v.f) := hpc 2 (by decide)
  have q3 : (w.alloc (.cells #[.int .i64 (p : Int), .int .u32 (q : Int), .int .i64 d, .int .u32 (kk : Int), .bool b] 106)).cell? ⟨x.pb, i * 6 + 3, none⟩ = some (.int .u32 v.k) := hpc 3 (by decide)
  have q4 : (w.alloc (.cells #[.int .i64 (p : Int), .int .u32 (q : Int), .int .i64 d, .int .u32 (kk : Int), .bool b] 106)).cell? ⟨x.pb, i * 6 + 4, none⟩ = some (.int .i64 Kv) := by have h4 := hpc 4 (by decide); rw [h4]; show some (Value.int .i64 (kd v)) = _; rw [hKe]
  have q5 : (w.alloc (.cells #[.int .i64 (p : Int), .int .u32 (q : Int), .int .i64 d, .int .u32 (kk : Int), .bool b] 106)).cell? ⟨x.pb, i * 6 + 5, none⟩ = some (.int .i64 i) := hpc 5 (by decide)
  have i1 : (0 : Int) ≤ (i : Int) := by omega
  have i2 : (i : Int) < (n : Int) := by omega
  have hb2 : Below w.heap.size w ((w.alloc (.cells #[.int .i64 (p : Int), .int .u32 (q : Int), .int .i64 d, .int .u32 (kk : Int), .bool b] 106)).alloc (.cells #[.int .u16 v.c, .int .u8 v.t, .int .u8 v.f, .int .u32 v.k, .int .i64 Kv, .int .i64 (i : Int)] 133)) := hb1.alloc hb1.size _
  have HG2 := Lib.hid ((GS.of h).below ho hb2)
  have hra : RowC ((w.alloc (.cells #[.int .i64 (p : Int), .int .u32 (q : Int), .int .i64 d, .int .u32 (kk : Int), .bool b] 106)).alloc (.cells #[.int .u16 v.c, .int .u8 v.t, .int .u8 v.f, .int .u32 v.k, .int .i64 Kv, .int .i64 (i : Int)] 133)) w.heap.size #[.int .i64 (p : Int), .int .u32 (q : Int), .int .i64 d, .int .u32 (kk : Int), .bool b] 106 := (RowC.new _ _ _ _ rfl).alloc _
  have hrx : RowC ((w.alloc (.cells #[.int .i64 (p : Int), .int .u32 (q : Int), .int .i64 d, .int .u32 (kk : Int), .bool b] 106)).alloc (.cells #[.int .u16 v.c, .int .u8 v.t, .int .u8 v.f, .int .u32 v.k, .int .i64 Kv, .int .i64 (i : Int)] 133)) (w.heap.size + 1) #[.int .u16 v.c, .int .u8 v.t, .int .u8 v.f, .int .u32 v.k, .int .i64 Kv, .int .i64 (i : Int)] 133 := RowC.new _ _ _ _ (by simp)
  have HRA := Lib.hid hra
  have HRX := Lib.hid hrx
  have hsz2 : ((w.alloc (.cells #[.int .i64 (p : Int), .int .u32 (q : Int), .int .i64 d, .int .u32 (kk : Int), .bool b] 106)).alloc (.cells #[.int .u16 v.c, .int .u8 v.t, .int .u8 v.f, .int .u32 v.k, .int .i64 Kv, .int .i64 (i : Int)] 133)).heap.size = w.heap.size + 2 := by simp
  have HSZ := Lib.hid hsz2
  have hlo := h.lo
  have d4 := hrx.cell 4 _ rfl
  have d3 := hrx.cell 3 _ rfl
  clear hra hrx hb1 hb2 hfm1 hpc hsz2
  rw [hgv] at hpF hnx hto1 hto2 hKi hn
  have hk15 := hn 15 (by simp)
  have h14 := hn 14 (by simp)
  have h1 := hn 1 (by simp)
  have h21 := hn 21 (by simp)
  have HL : Hid (∀ W, Calls Try.prog 69 #[.agg #[.int .u16 v.c, .int .u8 v.t, .int .u8 v.f, .int .u32 v.k, .int .i64 Kv, .int .i64 (i : Int)]] W fun e w' => ∃ A m, e = .returned (.slice A m m) ∧ I64s w' W.heap.size A m [i + 1 + v.t, i + 1 + v.f] ∧ Below W.heap.size W w') := Lib.hid fun W => by
    have h1 := pleads_any v hvo hk15 i W (by omega)
    rw [hnx] at h1
    simp only [flV, hKe] at h1
    exact h1
  rw [hKe] at hpF hKi h14 h1 h21
  rw [hpF] at hL
  rw [hpF]
  have hvk : v.k < 4294967296 := hvo.2.2.2
  obtain ⟨t1, ht1⟩ : ∃ z, i + 1 + v.t = z := ⟨_, rfl⟩
  obtain ⟨t2, ht2⟩ : ∃ z, i + 1 + v.f = z := ⟨_, rfl⟩
  rw [ht1, ht2] at HL hL ⊢
  rw [ht1] at hto1
  rw [ht2] at hto2
  have hti1 : i < t1 := by omega
  have hti2 : i < t2 := by omega
  have n14 : (Kv == 14) = false := by simpa using h14
  have n1 : (Kv == 1) = false := by simpa using h1
  have n21 : (Kv == 21) = false := by simpa using h21
  clear hgv hKe hpF hnx hn hk15 h14 h1 h21 ht1 ht2
  go_enter Try.func70, Try.ntmps70
  go_wp2_with fail
  obtain ⟨W2, hW2⟩ : ∃ W2, (w.alloc (.cells #[.int .i64 (p : Int), .int .u32 (q : Int), .int .i64 d, .int .u32 (kk : Int), .bool b] 106)).alloc (.cells #[.int .u16 v.c, .int .u8 v.t, .int .u8 v.f, .int .u32 v.k, .int .i64 Kv, .int .i64 (i : Int)] 133) = W2 := ⟨_, rfl⟩
  rw [hW2] at HG2 HRA HRX HSZ d3 d4 ⊢
  clear hW2 e0 q0 q1 q2 q3 q4 q5
  refine (isBranch_any Kv _).mono ?_
  rintro e w9 ⟨rfl, rfl⟩
  rw [hKi]
  go_wp2
  have ra2 : W2.drew.cell? ⟨w.heap.size, 2, none⟩ = some (.int .i64 d) := HRA.out.cell 2 _ rfl
  have rf2 : W2.drew.frozen? ⟨w.heap.size, 2, none⟩ = false := HRA.out.frozen 2
  have hra5 : RowC (W2.setCell ⟨w.heap.size, 2, none⟩ (.int .i64 Kv)).drew w.heap.size #[.int .i64 (p : Int), .int .u32 (q : Int), .int .i64 Kv, .int .u32 (kk : Int), .bool b] 106 := HRA.out.set 2 (.int .i64 Kv)
  have ra3 := hra5.cell 3 _ rfl
  have rf3 := hra5.frozen 3
  have HA3 : Hid (RowC ((W2.setCell ⟨w.heap.size, 2, none⟩ (.int .i64 Kv)).setCell ⟨w.heap.size, 3, none⟩ (.int .u32 (v.k : Int))).drew w.heap.size #[.int .i64 (p : Int), .int .u32 (q : Int), .int .i64 Kv, .int .u32 (v.k : Int), .bool b] 106) := Lib.hid ((HRA.out.set 2 (.int .i64 Kv)).set 3 (.int .u32 (v.k : Int)))
  clear hra5
  refine wp_region_E (S := fun V => RowC V (w.heap.size + 1) #[.int .u16 v.c, .int .u8 v.t, .int .u8 v.f, .int .u32 v.k, .int .i64 Kv, .int .i64 (i : Int)] 133) 8 (by kernel_rfl) ?_
  have hHeld : RowC W2.drew (w.heap.size + 1) #[.int .u16 v.c, .int .u8 v.t, .int .u8 v.f, .int .u32 v.k, .int .i64 Kv, .int .i64 (i : Int)] 133 := HRX.out
  refine wpAnyE_take (i := 0) (oi := ({ dst := some 68, op := Op.fieldAddr 133 (Operand.tmp 10) 1, type := 0, pos := "paths.go:174", after := #[], guard := none } : Oper)) (v := ?vg0x1) rfl (by kernel_rfl) (by decide) (by kernel_rfl) (fun _ _ _ h => h) (by rfl) ?hg0x1 hHeld ?rg0x1
  case hg0x1 =>
    intro V hV
    have s1 := hV.cell 4 _ rfl
    have s3 := hV.cell 3 _ rfl
    go_simp
    all_goals with_reducible rfl
  try simp only [Act.put, List.setIfInBounds_toArray, List.set_cons_zero, List.set_cons_succ]
  refine wpAnyE_take (i := 1) (oi := ({ dst := some 69, op := Op.load 78 (Operand.tmp 68), type := 78, pos := "paths.go:174", after := #[{ on := 0, ground := Ground.data }], guard := none } : Oper)) (v := ?vg1x2) rfl (by kernel_rfl) (by decide) (by kernel_rfl) (fun _ _ _ h => h) (by rfl) ?hg1x2 hHeld ?rg1x2
  case hg1x2 =>
    intro V hV
    have s1 := hV.cell 4 _ rfl
    have s3 := hV.cell 3 _ rfl
    go_simp
    all_goals with_reducible rfl
  try simp only [Act.put, List.setIfInBounds_toArray, List.set_cons_zero, List.set_cons_succ]
  refine wpAnyE_take (i := 2) (oi := ({ dst := some 70, op := Op.fieldAddr 133 (Operand.tmp 10) 0, type := 0, pos := "paths.go:174", after := #[{ on := 6, ground := Ground.gcOnly Departure.lateStores }], guard := none } : Oper)) (v := ?vg2x3) rfl (by kernel_rfl) (by decide) (by kernel_rfl) (fun _ _ _ h => h) (by rfl) ?hg2x3 hHeld ?rg2x3
  case hg2x3 =>
    intro V hV
    have s1 := hV.cell 4 _ rfl
    have s3 := hV.cell 3 _ rfl
    go_simp
    all_goals with_reducible rfl
  try simp only [Act.put, List.setIfInBounds_toArray, List.set_cons_zero, List.set_cons_succ]
  refine wpAnyE_take (i := 3) (oi := ({ dst := some 71, op := Op.fieldAddr 71 (Operand.tmp 70) 3, type := 0, pos := "paths.go:174", after := #[{ on := 2, ground := Ground.data }, { on := 6, ground := Ground.gcOnly Departure.lateStores }], guard := none } : Oper)) (v := ?vg3x4) rfl (by kernel_rfl) (by decide) (by kernel_rfl) (fun _ _ _ h => h) (by rfl) ?hg3x4 hHeld ?rg3x4
  case hg3x4 =>
    intro V hV
    have s1 := hV.cell 4 _ rfl
    have s3 := hV.cell 3 _ rfl
    go_simp
    all_goals with_reducible rfl
  try simp only [Act.put, List.setIfInBounds_toArray, List.set_cons_zero, List.set_cons_succ]
  refine wpAnyE_take (i := 4) (oi := ({ dst := some 72, op := Op.load 43 (Operand.tmp 71), type := 43, pos := "paths.go:174", after := #[{ on := 3, ground := Ground.data }, { on := 6, ground := Ground.gcOnly Departure.lateStores }], guard := none } : Oper)) (v := ?vg4x5) rfl (by kernel_rfl) (by decide) (by kernel_rfl) (fun _ _ _ h => h) (by rfl) ?hg4x5 hHeld ?rg4x5
  case hg4x5 =>
    intro V hV
    have s1 := hV.cell 4 _ rfl
    have s3 := hV.cell 3 _ rfl
    go_simp
    all_goals with_reducible rfl
  try simp only [Act.put, List.setIfInBounds_toArray, List.set_cons_zero, List.set_cons_succ]
  refine wpAnyE_take (i := 5) (oi := ({ dst := some 73, op := Op.fieldAddr 106 (Operand.tmp 9) 2, type := 0, pos := "paths.go:174", after := #[{ on := 0, ground := Ground.phase }, { on := 1, ground := Ground.phase }, { on := 2, ground := Ground.textOnly Departure.lateStores }, { on := 3, ground := Ground.textOnly Departure.lateStores }, { on := 4, ground := Ground.textOnly Departure.lateStores }], guard := none } : Oper)) (v := ?vg5x6) rfl (by kernel_rfl) (by decide) (by kernel_rfl) (fun _ _ _ h => h) (by rfl) ?hg5x6 hHeld ?rg5x6
  case hg5x6 =>
    intro V hV
    have s1 := hV.cell 4 _ rfl
    have s3 := hV.cell 3 _ rfl
    go_simp
    all_goals with_reducible rfl
  try simp only [Act.put, List.setIfInBounds_toArray, List.set_cons_zero, List.set_cons_succ]
  refine wpAnyE_ready (rs := [6]) (by kernel_rfl) (by simp) ?_
  refine (AllE.cons (o := ({ dst := none, op := Op.store 78 (Operand.tmp 73) (Operand.tmp 69), type := 0, pos := "paths.go:174", after := #[{ on := 5, ground := Ground.data }, { on := 1, ground := Ground.data }, { on := 0, ground := Ground.phase }, { on := 1, ground := Ground.phase }, { on := 2, ground := Ground.textOnly Departure.lateStores }, { on := 3, ground := Ground.textOnly Departure.lateStores }, { on := 4, ground := Ground.textOnly Departure.lateStores }], guard := none } : Oper)) rfl (by decide) (fun K hK => ?_) AllE.nil)
  go_simp
  refine hK.out _ _ ?kg6x7 (fun hHeld2 => ?_)
  case kg6x7 => exact hHeld.setOther 2 _ (by omega)
  clear hK K
  try simp only [Act.put, List.setIfInBounds_toArray, List.set_cons_zero, List.set_cons_succ]
  replace hHeld := hHeld2
  clear hHeld2
  refine wpAnyE_take (i := 7) (oi := ({ dst := some 74, op := Op.fieldAddr 106 (Operand.tmp 9) 3, type := 0, pos := "paths.go:174", after := #[{ on := 0, ground := Ground.phase }, { on := 1, ground := Ground.phase }, { on := 2, ground := Ground.phase }, { on := 3, ground := Ground.phase }, { on := 4, ground := Ground.phase }, { on := 5, ground := Ground.phase }, { on := 6, ground := Ground.phase }], guard := none } : Oper)) (v := ?vg7x8) rfl (by kernel_rfl) (by decide) (by kernel_rfl) (fun _ _ _ h => h) (by rfl) ?hg7x8 hHeld ?rg7x8
  case hg7x8 =>
    intro V hV
    skip
    go_simp
    all_goals with_reducible rfl
  try simp only [Act.put, List.setIfInBounds_toArray, List.set_cons_zero, List.set_cons_succ]
  refine wpAnyE_late (j := 8) (o := ({ dst := none, op := Op.store 43 (Operand.tmp 74) (Operand.tmp 72), type := 0, pos := "paths.go:174", after := #[{ on := 7, ground := Ground.data }, { on := 4, ground := Ground.data }, { on := 6, ground := Ground.chain }, { on := 0, ground := Ground.phase }, { on := 1, ground := Ground.phase }, { on := 2, ground := Ground.phase }, { on := 3, ground := Ground.phase }, { on := 4, ground := Ground.phase }, { on := 5, ground := Ground.phase }, { on := 6, ground := Ground.phase }], guard := none } : Oper)) (by kernel_rfl) (by decide) rfl (fun K hK => ?_)
  go_simp
  refine hK.out _ _ ?_
  clear hK K
  try simp only [Act.put, List.setIfInBounds_toArray, List.set_cons_zero, List.set_cons_succ]
  refine wpAnyE_done (by kernel_rfl) ?_ _
  have hXn : w.heap.size + 1 ≠ w.heap.size := by omega
  have HX3 : Hid (RowC ((W2.setCell ⟨w.heap.size, 2, none⟩ (.int .i64 Kv)).setCell ⟨w.heap.size, 3, none⟩ (.int .u32 (v.k : Int))).drew (w.heap.size + 1) #[.int .u16 v.c, .int .u8 v.t, .int .u8 v.f, .int .u32 v.k, .int .i64 Kv, .int .i64 (i : Int)] 133) := Lib.hid ((HRX.out.setOther 2 (.int .i64 Kv) hXn).setOther 3 (.int .u32 (v.k : Int)) hXn)
  have hfr : some w.heap.size ≠ obk A ∧ some w.heap.size ≠ obk T ∧ ∀ j, j < L.length → some w.heap.size ≠ obk (S j).1 := ⟨fun e => by have := (own_lt h.alo e).2.1; omega, fun e => by have := (own_lt h.teo e).2.1; omega, fun j hj e => by have := ((h.cl j hj).2 _ e).2.1; omega⟩
  have hout : x.out w.heap.size := ⟨by have := h.lo; omega, by have := h.lo; omega, by have := h.lo; omega, by have := h.lo; omega, by have := h.lo; omega⟩
  have HG3 := Lib.hid (((HG2.out.aside ho (Nat.le_refl _) hout hfr.1 hfr.2.1 hfr.2.2 2 (.int .i64 Kv)).aside ho (Nat.le_refl _) hout hfr.1 hfr.2.1 hfr.2.2 3 (.int .u32 (v.k : Int))).below ho (Below.refl _ _).drew)
  have hsz3 : ((W2.setCell ⟨w.heap.size, 2, none⟩ (.int .i64 Kv)).setCell ⟨w.heap.size, 3, none⟩ (.int .u32 (v.k : Int))).drew.heap.size = w.heap.size + 2 := by rw [← HSZ.out]; simp [World.setCell]
  clear ra2 rf2 ra3 rf3 d3 d4 hHeld HG2 HRA HRX
  generalize ((W2.setCell ⟨w.heap.size, 2, none⟩ (.int .i64 Kv)).setCell ⟨w.heap.size, 3, none⟩ (.int .u32 (v.k : Int))).drew = W3 at *
  have y0 := RowC.cell HX3.out 0 _ rfl
  have y1 := RowC.cell HX3.out 1 _ rfl
  have y2 := RowC.cell HX3.out 2 _ rfl
  have y3 := RowC.cell HX3.out 3 _ rfl
  have y4 := RowC.cell HX3.out 4 _ rfl
  have y5 := RowC.cell HX3.out 5 _ rfl
  go_wp2_with fail
  refine (HL.out _).mono ?_
  rintro e w4 ⟨lA, m', rfl, ⟨hml, hcel, hblk⟩, hB4⟩
  obtain rfl : m' = 2 := hml
  have HG4 := Lib.hid (HG3.out.below ho hB4)
  have HA4 := Lib.hid (HA3.out.below hB4 HA3.out.lt)
  obtain ⟨lb, lof, rfl, hlb, hlc⟩ := hcel.at_ (by decide)
  have l0 : w4.cell? ⟨lb, lof, none⟩ = some (.int .i64 (t1 : Nat)) := hlc 0 (by decide)
  have l1 : w4.cell? ⟨lb, lof + 1, none⟩ = some (.int .i64 (t2 : Nat)) := hlc 1 (by decide)
  have hlb3 : W3.heap.size ≤ lb := hblk _ rfl
  have hlbx : x.out lb ∧ lb ≠ w.heap.size := ⟨⟨by have := h.lo; omega, by have := h.lo; omega, by have := h.lo; omega, by have := h.lo; omega, by have := h.lo; omega⟩, by omega⟩
  have hlr : some lb ≠ obk A ∧ some lb ≠ obk T := ⟨fun e => by have := (own_lt h.alo e).2.1; omega, fun e => by have := (own_lt h.teo e).2.1; omega⟩
  rw [List.length_append] at hL
  clear hlc hcel hB4 y0 y1 y2 y3 y4 y5 HX3 HG3 HA3 HL hblk hlb3 hsz3
  go_wp2
  go_loopw [78] (fun ix wr => (ix = .int .i64 0 ∧ (∃ A1 cA1 T1 cT1 S1 bb, GS x g n w L A T S wr (L) ts A1 cA1 T1 cT1 S1 ∧ RowC wr w.heap.size #[.int .i64 (p : Int), .int .u32 (q : Int), .int .i64 Kv, .int .u32 (v.k : Int), .bool bb] 106 ∧ wr.cell? ⟨lb, lof, none⟩ = some (.int .i64 (t1 : Nat)) ∧ wr.cell? ⟨lb, lof + 1, none⟩ = some (.int .i64 (t2 : Nat)) ∧ lb < wr.heap.size ∧ (some w.heap.size ≠ obk A1 ∧ some w.heap.size ≠ obk T1 ∧ ∀ j, j < (L).length → some w.heap.size ≠ obk (S1 j).1) ∧ some lb ≠ obk A1 ∧ some lb ≠ obk T1)) ∨ (ix = .int .i64 1 ∧ (∃ A1 cA1 T1 cT1 S1 bb, GS x g n w L A T S wr (L ++ pF g m t1 p q (ts ++ [⟨(p : Int), q, Kv, v.k, true⟩]) (s + 1)) ts A1 cA1 T1 cT1 S1 ∧ RowC wr w.heap.size #[.int .i64 (p : Int), .int .u32 (q : Int), .int .i64 Kv, .int .u32 (v.k : Int), .bool bb] 106 ∧ wr.cell? ⟨lb, lof, none⟩ = some (.int .i64 (t1 : Nat)) ∧ wr.cell? ⟨lb, lof + 1, none⟩ = some (.int .i64 (t2 : Nat)) ∧ lb < wr.heap.size ∧ (some w.heap.size ≠ obk A1 ∧ some w.heap.size ≠ obk T1 ∧ ∀ j, j < (L ++ pF g m t1 p q (ts ++ [⟨(p : Int), q, Kv, v.k, true⟩]) (s + 1)).length → some w.heap.size ≠ obk (S1 j).1) ∧ some lb ≠ obk A1 ∧ some lb ≠ obk T1)) ∨ (ix = .int .i64 2 ∧ (∃ A1 cA1 T1 cT1 S1 bb, GS x g n w L A T S wr (L ++ (pF g m t1 p q (ts ++ [⟨(p : Int), q, Kv, v.k, true⟩]) (s + 1) ++ pF g m t2 p q (ts ++ [⟨(p : Int), q, Kv, v.k, false⟩]) (s + 1))) ts A1 cA1 T1 cT1 S1 ∧ RowC wr w.heap.size #[.int .i64 (p : Int), .int .u32 (q : Int), .int .i64 Kv, .int .u32 (v.k : Int), .bool bb] 106 ∧ wr.cell? ⟨lb, lof, none⟩ = some (.int .i64 (t1 : Nat)) ∧ wr.cell? ⟨lb, lof + 1, none⟩ = some (.int .i64 (t2 : Nat)) ∧ lb < wr.heap.size ∧ (some w.heap.size ≠ obk A1 ∧ some w.heap.size ≠ obk T1 ∧ ∀ j, j < (L ++ (pF g m t1 p q (ts ++ [⟨(p : Int), q, Kv, v.k, true⟩]) (s + 1) ++ pF g m t2 p q (ts ++ [⟨(p : Int), q, Kv, v.k, false⟩]) (s + 1))).length → some w.heap.size ≠ obk (S1 j).1) ∧ some lb ≠ obk A1 ∧ some lb ≠ obk T1)))
    (fun ix _ => 2 - (intOf ix).toNat)
  case atStart => exact .inl ⟨rfl, A, cA, T, cT, S, b, HG4.out, HA4.out, l0, l1, hlb, hfr, hlr.1, hlr.2⟩
  case round =>
    clear l0 l1 HG4 HA4 hfr hlr hlb
    rcases hrel with ⟨rfl, hinv⟩ | ⟨rfl, hinv⟩ | ⟨rfl, hinv⟩
    · obtain ⟨A1, cA1, T1, cT1, S1, bb, hG, hA, c0, c1, hlt, ⟨hx1, hx2, hx3⟩, hl1, hl2⟩ := hinv
      have hw1 : w.heap.size < wr.heap.size := hA.lt
      have hlo1 : x.out w.heap.size := ⟨by have := h.lo; omega, by have := h.lo; omega, by have := h.lo; omega, by have := h.lo; omega, by have := h.lo; omega⟩
      have HLB : Hid (x.out lb ∧ lb ≠ w.heap.size) := Lib.hid hlbx
      have a4 := hA.cell 4 _ rfl
      have fa4 := hA.frozen 4
      have HGp := Lib.hid (hG.aside ho (Nat.le_refl _) hlo1 hx1 hx2 hx3 4 (.bool true))
      have hAp : RowC (wr.setCell ⟨w.heap.size, 4, none⟩ (.bool true)) w.heap.size #[.int .i64 (p : Int), .int .u32 (q : Int), .int .i64 Kv, .int .u32 (v.k : Int), .bool true] 106 := hA.set 4 (.bool true)
      have p0 := hAp.cell 0 _ rfl
      have p1 := hAp.cell 1 _ rfl
      have p2 := hAp.cell 2 _ rfl
      have p3 := hAp.cell 3 _ rfl
      have p4 := hAp.cell 4 _ rfl
      have te0 := RowAt.cell HGp.out.fm.te 0 _ rfl
      have hszU : (wr.setCell ⟨w.heap.size, 4, none⟩ (.bool true)).heap.size = wr.heap.size := by simp [World.setCell]
      have hba : Below (wr.setCell ⟨w.heap.size, 4, none⟩ (.bool true)).heap.size (wr.setCell ⟨w.heap.size, 4, none⟩ (.bool true)) ((wr.setCell ⟨w.heap.size, 4, none⟩ (.bool true)).alloc (.cells #[.int .i64 (p : Int), .int .u32 (q : Int), .int .i64 Kv, .int .u32 (v.k : Int), .bool true] 106)) := (Below.refl _ _).alloc (Nat.le_refl _) _
      have HGa := Lib.hid (HGp.out.fm.below ho hba)
      have HAa := Lib.hid (hAp.alloc (.cells #[.int .i64 (p : Int), .int .u32 (q : Int), .int .i64 Kv, .int .u32 (v.k : Int), .bool true] 106))
      have HC0 : Hid (((wr.setCell ⟨w.heap.size, 4, none⟩ (.bool true)).alloc (.cells #[.int .i64 (p : Int), .int .u32 (q : Int), .int .i64 Kv, .int .u32 (v.k : Int), .bool true] 106)).cell? ⟨lb, lof, none⟩ = some (.int .i64 (t1 : Nat))) := Lib.hid ((hba.cell (p := ⟨lb, lof, none⟩) (by rw [hszU]; exact hlt)).trans ((World.cell?_of_block (w := wr) (a := ⟨lb, lof, none⟩) (Below.heap_setCell _ _ _ _ hlbx.2)).trans c0))
      have HC1 : Hid (((wr.setCell ⟨w.heap.size, 4, none⟩ (.bool true)).alloc (.cells #[.int .i64 (p : Int), .int .u32 (q : Int), .int .i64 Kv, .int .u32 (v.k : Int), .bool true] 106)).cell? ⟨lb, lof + 1, none⟩ = some (.int .i64 (t2 : Nat))) := Lib.hid ((hba.cell (p := ⟨lb, lof + 1, none⟩) (by rw [hszU]; exact hlt)).trans ((World.cell?_of_block (w := wr) (a := ⟨lb, lof + 1, none⟩) (Below.heap_setCell _ _ _ _ hlbx.2)).trans c1))
      have hsza : ((wr.setCell ⟨w.heap.size, 4, none⟩ (.bool true)).alloc (.cells #[.int .i64 (p : Int), .int .u32 (q : Int), .int .i64 Kv, .int .u32 (v.k : Int), .bool true] 106)).heap.size = wr.heap.size + 1 := by simp [World.setCell]
      have HBA := Lib.hid hba
      have HX := Lib.hid (⟨hx1, hx2, hx3⟩ : some w.heap.size ≠ obk A1 ∧ some w.heap.size ≠ obk T1 ∧ ∀ j, j < (L).length → some w.heap.size ≠ obk (S1 j).1)
      have HLL := Lib.hid (⟨hl1, hl2⟩ : some lb ≠ obk A1 ∧ some lb ≠ obk T1)
      clear hG hA hAp hba hx1 hx2 hx3 hl1 hl2 hlbx
      go_wp2_with (at_builtin; go_must (refine app_cellsA _ rfl _ _ _ 106 rfl Try.underlying54 infoTst rfl (by decide) rfl HGa.out.teo rfl (one_tb (wr.setCell ⟨w.heap.size, 4, none⟩ (.bool true)) ⟨(p : Int), q, Kv, v.k, true⟩ 106 wr.heap.size hszU.symm) (fun i _ => tscell_one _ i) (by unfold maxLen; omega) (by omega) (Nat.zero_le _) (ts.length + 1) rfl (tscell fun i => (ts ++ [⟨(p : Int), q, Kv, v.k, true⟩])[i]!) (tscell_snoc ts ⟨(p : Int), q, Kv, v.k, true⟩) ?_; rintro T2 cT2 w4' hT2 hg4 hat4; rw [own_obk] at hg4; rw [own_obk, own_obk] at hat4; have htp := HGa.out.tpush ho hT2 hg4 hat4; have hte4 := (hg4.block x.Te HGa.out.lo.2.2.1 (fun e => (HGa.out.to_ _ e).2.2.1 rfl)).trans HGa.out.te; have s8 := RowAt.cell hte4 0 _ rfl; have s9 := RowAt.frozen hte4 0; have HTP := Lib.hid htp; have HAT := Lib.hid hat4; have ha5 : RowC (w4'.setCell ⟨x.Te, 0, none⟩ (.slice T2 (ts.length + 1) cT2)) w.heap.size #[.int .i64 (p : Int), .int .u32 (q : Int), .int .i64 Kv, .int .u32 (v.k : Int), .bool true] 106 := (htp.2.block w.heap.size (by rw [hsza]; omega) (by have := h.lo.2.1; omega) (by have := h.lo.2.2.1; omega) HX.out.1 HX.out.2.1).trans HAa.out; have z0 := ha5.cell 0 _ rfl; have z1 := ha5.cell 1 _ rfl; have z2 := ha5.cell 2 _ rfl; have z3 := ha5.cell 3 _ rfl; have z4 := ha5.cell 4 _ rfl; have HA5 := Lib.hid ha5; have fo0 : (w4'.setCell ⟨x.Te, 0, none⟩ (.slice T2 (ts.length + 1) cT2)).cell? ⟨x.Fo, 0, none⟩ = some (.func (.func 70) #[] #[.pointer (some ⟨x.P, 0, none⟩), .pointer (some ⟨x.Al, 0, none⟩), .pointer (some ⟨x.Te, 0, none⟩), .pointer (some ⟨x.Fo, 0, none⟩)]) := RowAt.cell htp.1.fo 0 _ rfl; clear htp hat4 ha5 hte4 hT2 hg4))
      have hR := HIH t1 (by omega) hto1 p q Kv v.k true (s + 1) _ (L) (ts ++ [⟨(p : Int), q, Kv, v.k, true⟩]) A1 cA1 T2 cT2 S1 HTP.out.1 hp hq hvk (by omega) (by rw [List.length_append]; simp only [List.length_cons, List.length_nil]; omega) (by omega)
      refine hR.mono ?_
      rintro e w6 ⟨rfl, A3, cA3, T3, cT3, S3, hk⟩
      have htpop := hk.fm.tpop ho
      have G5 : GS x g n ((wr.setCell ⟨w.heap.size, 4, none⟩ (.bool true)).alloc (.cells #[.int .i64 (p : Int), .int .u32 (q : Int), .int .i64 Kv, .int .u32 (v.k : Int), .bool true] 106)) (L) A1 T1 S1 (w4'.setCell ⟨x.Te, 0, none⟩ (.slice T2 (ts.length + 1) cT2)) (L) (ts ++ [⟨(p : Int), q, Kv, v.k, true⟩]) A1 cA1 T2 cT2 S1 := ⟨HTP.out.1, HTP.out.2, fun b e => .inl e, fun b e => by
        rcases HAT.out with h9 | h9
        · rw [h9] at e; exact .inl e
        · rw [h9] at e
          injection e with e3
          exact .inr (Nat.le_of_eq e3.symm), fun j hj b e => .inl ⟨j, hj, e⟩⟩
      have G7 : GS x g n w6 ((L) ++ pF g m t1 p q (ts ++ [⟨(p : Int), q, Kv, v.k, true⟩]) (s + 1)) A3 T3 S3 (w6.setCell ⟨x.Te, 0, none⟩ (.slice T3 ts.length cT3)) ((L) ++ pF g m t1 p q (ts ++ [⟨(p : Int), q, Kv, v.k, true⟩]) (s + 1)) ts A3 cA3 T3 cT3 S3 := ⟨htpop.1, htpop.2, fun b e => .inl e, fun b e => .inl e, fun j hj b e => .inl ⟨j, hj, e⟩⟩
      have HGX := Lib.hid ((G5.trans hk).trans G7)
      have HGZ := Lib.hid ((HGp.out.below ho HBA.out).trans HGX.out)
      obtain ⟨tb, etb, _⟩ := hk.fm.teo.at_ (by simp)
      have hle3 := hk.fm.teo.cel.le
      have te6 := RowAt.cell hk.fm.te 0 _ rfl
      have tf6 := RowAt.frozen hk.fm.te 0
      subst etb
      have elen : (ts ++ [(⟨(p : Int), q, Kv, v.k, true⟩ : TV)]).length = ts.length + 1 := by simp
      have te6 : w6.cell? ⟨x.Te, 0, none⟩ = some (.slice (some ⟨tb, 0, none⟩) (ts.length + 1) cT3) := by rw [← elen]; exact te6
      rw [elen] at hle3
      have hcap : ts.length ≤ cT3 := by omega
      have hcm := hle3.2
      unfold maxLen at hcm
      have hw8 : IntKind.i64.wrap (((ts.length : Int) + 1) - 1) = (ts.length : Int) := by rw [IntWalk.i64_in _ (by omega)]; omega
      clear hk htpop G5 G7 hle3
      go_wp2
      have hal := h.lo.2.1
      have hte := h.lo.2.2.1
      have HA7 : RowC (w6.setCell ⟨x.Te, 0, none⟩ (.slice (some ⟨tb, 0, none⟩) ts.length cT3)) w.heap.size #[.int .i64 (p : Int), .int .u32 (q : Int), .int .i64 Kv, .int .u32 (v.k : Int), .bool true] 106 := (HGX.out.gk.block w.heap.size (by rw [hsza]; omega) (by omega) (by omega) HX.out.1 HX.out.2.1).trans HAa.out
      have hkl := HGX.out.gk.block lb (by rw [hsza]; omega) HLB.out.1.2.1 HLB.out.1.2.2.1 HLL.out.1 HLL.out.2
      have e1 := (World.cell?_of_block (w := (wr.setCell ⟨w.heap.size, 4, none⟩ (.bool true)).alloc (.cells #[.int .i64 (p : Int), .int .u32 (q : Int), .int .i64 Kv, .int .u32 (v.k : Int), .bool true] 106)) (a := ⟨lb, lof, none⟩) hkl).trans HC0.out
      have e2 := (World.cell?_of_block (w := (wr.setCell ⟨w.heap.size, 4, none⟩ (.bool true)).alloc (.cells #[.int .i64 (p : Int), .int .u32 (q : Int), .int .i64 Kv, .int .u32 (v.k : Int), .bool true] 106)) (a := ⟨lb, lof + 1, none⟩) hkl).trans HC1.out
      have hs7 := Nat.lt_of_lt_of_le (show lb < ((wr.setCell ⟨w.heap.size, 4, none⟩ (.bool true)).alloc (.cells #[.int .i64 (p : Int), .int .u32 (q : Int), .int .i64 Kv, .int .u32 (v.k : Int), .bool true] 106)).heap.size by rw [hsza]; omega) HGX.out.gk.size
      have f1 : some w.heap.size ≠ obk A3 := fun e => (HGX.out.na _ e).elim HX.out.1 fun h => by rw [hsza] at h; omega
      have f2 : some w.heap.size ≠ obk (some ⟨tb, 0, none⟩) := fun e => (HGX.out.nt _ e).elim HX.out.2.1 fun h => by rw [hsza] at h; omega
      have f3 : ∀ j, j < ((L) ++ pF g m t1 p q (ts ++ [⟨(p : Int), q, Kv, v.k, true⟩]) (s + 1)).length → some w.heap.size ≠ obk (S3 j).1 := fun j hj e => (HGX.out.nc j hj _ e).elim (fun ⟨j', hj', e'⟩ => HX.out.2.2 j' hj' e') fun h => by rw [hsza] at h; omega
      have g1 : some lb ≠ obk A3 := fun e => (HGX.out.na _ e).elim HLL.out.1 fun h => by rw [hsza] at h; omega
      have g2 : some lb ≠ obk (some ⟨tb, 0, none⟩) := fun e => (HGX.out.nt _ e).elim HLL.out.2 fun h => by rw [hsza] at h; omega
      exact ⟨.inr (.inl ⟨by go_num, A3, cA3, _, cT3, S3, true, HGZ.out, HA7, e1, e2, hs7, ⟨f1, f2, f3⟩, g1, g2⟩), by simp [intOf]⟩
    · obtain ⟨A1, cA1, T1, cT1, S1, bb, hG, hA, c0, c1, hlt, ⟨hx1, hx2, hx3⟩, hl1, hl2⟩ := hinv
      have hw1 : w.heap.size < wr.heap.size := hA.lt
      have hlo1 : x.out w.heap.size := ⟨by have := h.lo; omega, by have := h.lo; omega, by have := h.lo; omega, by have := h.lo; omega, by have := h.lo; omega⟩
      have HLB : Hid (x.out lb ∧ lb ≠ w.heap.size) := Lib.hid hlbx
      have a4 := hA.cell 4 _ rfl
      have fa4 := hA.frozen 4
      have HGp := Lib.hid (hG.aside ho (Nat.le_refl _) hlo1 hx1 hx2 hx3 4 (.bool false))
      have hAp : RowC (wr.setCell ⟨w.heap.size, 4, none⟩ (.bool false)) w.heap.size #[.int .i64 (p : Int), .int .u32 (q : Int), .int .i64 Kv, .int .u32 (v.k : Int), .bool false] 106 := hA.set 4 (.bool false)
      have p0 := hAp.cell 0 _ rfl
      have p1 := hAp.cell 1 _ rfl
      have p2 := hAp.cell 2 _ rfl
      have p3 := hAp.cell 3 _ rfl
      have p4 := hAp.cell 4 _ rfl
      have te0 := RowAt.cell HGp.out.fm.te 0 _ rfl
      have hszU : (wr.setCell ⟨w.heap.size, 4, none⟩ (.bool false)).heap.size = wr.heap.size := by simp [World.setCell]
      have hba : Below (wr.setCell ⟨w.heap.size, 4, none⟩ (.bool false)).heap.size (wr.setCell ⟨w.heap.size, 4, none⟩ (.bool false)) ((wr.setCell ⟨w.heap.size, 4, none⟩ (.bool false)).alloc (.cells #[.int .i64 (p : Int), .int .u32 (q : Int), .int .i64 Kv, .int .u32 (v.k : Int), .bool false] 106)) := (Below.refl _ _).alloc (Nat.le_refl _) _
      have HGa := Lib.hid (HGp.out.fm.below ho hba)
      have HAa := Lib.hid (hAp.alloc (.cells #[.int .i64 (p : Int), .int .u32 (q : Int), .int .i64 Kv, .int .u32 (v.k : Int), .bool false] 106))
      have HC0 : Hid (((wr.setCell ⟨w.heap.size, 4, none⟩ (.bool false)).alloc (.cells #[.int .i64 (p : Int), .int .u32 (q : Int), .int .i64 Kv, .int .u32 (v.k : Int), .bool false] 106)).cell? ⟨lb, lof, none⟩ = some (.int .i64 (t1 : Nat))) := Lib.hid ((hba.cell (p := ⟨lb, lof, none⟩) (by rw [hszU]; exact hlt)).trans ((World.cell?_of_block (w := wr) (a := ⟨lb, lof, none⟩) (Below.heap_setCell _ _ _ _ hlbx.2)).trans c0))
      have HC1 : Hid (((wr.setCell ⟨w.heap.size, 4, none⟩ (.bool false)).alloc (.cells #[.int .i64 (p : Int), .int .u32 (q : Int), .int .i64 Kv, .int .u32 (v.k : Int), .bool false] 106)).cell? ⟨lb, lof + 1, none⟩ = some (.int .i64 (t2 : Nat))) := Lib.hid ((hba.cell (p := ⟨lb, lof + 1, none⟩) (by rw [hszU]; exact hlt)).trans ((World.cell?_of_block (w := wr) (a := ⟨lb, lof + 1, none⟩) (Below.heap_setCell _ _ _ _ hlbx.2)).trans c1))
      have hsza : ((wr.setCell ⟨w.heap.size, 4, none⟩ (.bool false)).alloc (.cells #[.int .i64 (p : Int), .int .u32 (q : Int), .int .i64 Kv, .int .u32 (v.k : Int), .bool false] 106)).heap.size = wr.heap.size + 1 := by simp [World.setCell]
      have HBA := Lib.hid hba
      have HX := Lib.hid (⟨hx1, hx2, hx3⟩ : some w.heap.size ≠ obk A1 ∧ some w.heap.size ≠ obk T1 ∧ ∀ j, j < (L ++ pF g m t1 p q (ts ++ [⟨(p : Int), q, Kv, v.k, true⟩]) (s + 1)).length → some w.heap.size ≠ obk (S1 j).1)
      have HLL := Lib.hid (⟨hl1, hl2⟩ : some lb ≠ obk A1 ∧ some lb ≠ obk T1)
      clear hG hA hAp hba hx1 hx2 hx3 hl1 hl2 hlbx
      go_wp2_with (at_builtin; go_must (refine app_cellsA _ rfl _ _ _ 106 rfl Try.underlying54 infoTst rfl (by decide) rfl HGa.out.teo rfl (one_tb (wr.setCell ⟨w.heap.size, 4, none⟩ (.bool false)) ⟨(p : Int), q, Kv, v.k, false⟩ 106 wr.heap.size hszU.symm) (fun i _ => tscell_one _ i) (by unfold maxLen; omega) (by omega) (Nat.zero_le _) (ts.length + 1) rfl (tscell fun i => (ts ++ [⟨(p : Int), q, Kv, v.k, false⟩])[i]!) (tscell_snoc ts ⟨(p : Int), q, Kv, v.k, false⟩) ?_; rintro T2 cT2 w4' hT2 hg4 hat4; rw [own_obk] at hg4; rw [own_obk, own_obk] at hat4; have htp := HGa.out.tpush ho hT2 hg4 hat4; have hte4 := (hg4.block x.Te HGa.out.lo.2.2.1 (fun e => (HGa.out.to_ _ e).2.2.1 rfl)).trans HGa.out.te; have s8 := RowAt.cell hte4 0 _ rfl; have s9 := RowAt.frozen hte4 0; have HTP := Lib.hid htp; have HAT := Lib.hid hat4; have ha5 : RowC (w4'.setCell ⟨x.Te, 0, none⟩ (.slice T2 (ts.length + 1) cT2)) w.heap.size #[.int .i64 (p : Int), .int .u32 (q : Int), .int .i64 Kv, .int .u32 (v.k : Int), .bool false] 106 := (htp.2.block w.heap.size (by rw [hsza]; omega) (by have := h.lo.2.1; omega) (by have := h.lo.2.2.1; omega) HX.out.1 HX.out.2.1).trans HAa.out; have z0 := ha5.cell 0 _ rfl; have z1 := ha5.cell 1 _ rfl; have z2 := ha5.cell 2 _ rfl; have z3 := ha5.cell 3 _ rfl; have z4 := ha5.cell 4 _ rfl; have HA5 := Lib.hid ha5; have fo0 : (w4'.setCell ⟨x.Te, 0, none⟩ (.slice T2 (ts.length + 1) cT2)).cell? ⟨x.Fo, 0, none⟩ = some (.func (.func 70) #[] #[.pointer (some ⟨x.P, 0, none⟩), .pointer (some ⟨x.Al, 0, none⟩), .pointer (some ⟨x.Te, 0, none⟩), .pointer (some ⟨x.Fo, 0, none⟩)]) := RowAt.cell htp.1.fo 0 _ rfl; clear htp hat4 ha5 hte4 hT2 hg4))
      have hR := HIH t2 (by omega) hto2 p q Kv v.k false (s + 1) _ (L ++ pF g m t1 p q (ts ++ [⟨(p : Int), q, Kv, v.k, true⟩]) (s + 1)) (ts ++ [⟨(p : Int), q, Kv, v.k, false⟩]) A1 cA1 T2 cT2 S1 HTP.out.1 hp hq hvk (by omega) (by rw [List.length_append]; simp only [List.length_cons, List.length_nil]; omega) (by rw [List.length_append]; omega)
      refine hR.mono ?_
      rintro e w6 ⟨rfl, A3, cA3, T3, cT3, S3, hk⟩
      have htpop := hk.fm.tpop ho
      have G5 : GS x g n ((wr.setCell ⟨w.heap.size, 4, none⟩ (.bool false)).alloc (.cells #[.int .i64 (p : Int), .int .u32 (q : Int), .int .i64 Kv, .int .u32 (v.k : Int), .bool false] 106)) (L ++ pF g m t1 p q (ts ++ [⟨(p : Int), q, Kv, v.k, true⟩]) (s + 1)) A1 T1 S1 (w4'.setCell ⟨x.Te, 0, none⟩ (.slice T2 (ts.length + 1) cT2)) (L ++ pF g m t1 p q (ts ++ [⟨(p : Int), q, Kv, v.k, true⟩]) (s + 1)) (ts ++ [⟨(p : Int), q, Kv, v.k, false⟩]) A1 cA1 T2 cT2 S1 := ⟨HTP.out.1, HTP.out.2, fun b e => .inl e, fun b e => by
        rcases HAT.out with h9 | h9
        · rw [h9] at e; exact .inl e
        · rw [h9] at e
          injection e with e3
          exact .inr (Nat.le_of_eq e3.symm), fun j hj b e => .inl ⟨j, hj, e⟩⟩
      have G7 : GS x g n w6 ((L ++ pF g m t1 p q (ts ++ [⟨(p : Int), q, Kv, v.k, true⟩]) (s + 1)) ++ pF g m t2 p q (ts ++ [⟨(p : Int), q, Kv, v.k, false⟩]) (s + 1)) A3 T3 S3 (w6.setCell ⟨x.Te, 0, none⟩ (.slice T3 ts.length cT3)) ((L ++ pF g m t1 p q (ts ++ [⟨(p : Int), q, Kv, v.k, true⟩]) (s + 1)) ++ pF g m t2 p q (ts ++ [⟨(p : Int), q, Kv, v.k, false⟩]) (s + 1)) ts A3 cA3 T3 cT3 S3 := ⟨htpop.1, htpop.2, fun b e => .inl e, fun b e => .inl e, fun j hj b e => .inl ⟨j, hj, e⟩⟩
      have HGX := Lib.hid ((G5.trans hk).trans G7)
      have HGZ := Lib.hid ((HGp.out.below ho HBA.out).trans HGX.out)
      obtain ⟨tb, etb, _⟩ := hk.fm.teo.at_ (by simp)
      have hle3 := hk.fm.teo.cel.le
      have te6 := RowAt.cell hk.fm.te 0 _ rfl
      have tf6 := RowAt.frozen hk.fm.te 0
      subst etb
      have elen : (ts ++ [(⟨(p : Int), q, Kv, v.k, false⟩ : TV)]).length = ts.length + 1 := by simp
      have te6 : w6.cell? ⟨x.Te, 0, none⟩ = some (.slice (some ⟨tb, 0, none⟩) (ts.length + 1) cT3) := by rw [← elen]; exact te6
      rw [elen] at hle3
      have hcap : ts.length ≤ cT3 := by omega
      have hcm := hle3.2
      unfold maxLen at hcm
      have hw8 : IntKind.i64.wrap (((ts.length : Int) + 1) - 1) = (ts.length : Int) := by rw [IntWalk.i64_in _ (by omega)]; omega
      clear hk htpop G5 G7 hle3
      go_wp2
      have hal := h.lo.2.1
      have hte := h.lo.2.2.1
      have HA7 : RowC (w6.setCell ⟨x.Te, 0, none⟩ (.slice (some ⟨tb, 0, none⟩) ts.length cT3)) w.heap.size #[.int .i64 (p : Int), .int .u32 (q : Int), .int .i64 Kv, .int .u32 (v.k : Int), .bool false] 106 := (HGX.out.gk.block w.heap.size (by rw [hsza]; omega) (by omega) (by omega) HX.out.1 HX.out.2.1).trans HAa.out
      have hkl := HGX.out.gk.block lb (by rw [hsza]; omega) HLB.out.1.2.1 HLB.out.1.2.2.1 HLL.out.1 HLL.out.2
      have e1 := (World.cell?_of_block (w := (wr.setCell ⟨w.heap.size, 4, none⟩ (.bool false)).alloc (.cells #[.int .i64 (p : Int), .int .u32 (q : Int), .int .i64 Kv, .int .u32 (v.k : Int), .bool false] 106)) (a := ⟨lb, lof, none⟩) hkl).trans HC0.out
      have e2 := (World.cell?_of_block (w := (wr.setCell ⟨w.heap.size, 4, none⟩ (.bool false)).alloc (.cells #[.int .i64 (p : Int), .int .u32 (q : Int), .int .i64 Kv, .int .u32 (v.k : Int), .bool false] 106)) (a := ⟨lb, lof + 1, none⟩) hkl).trans HC1.out
      have hs7 := Nat.lt_of_lt_of_le (show lb < ((wr.setCell ⟨w.heap.size, 4, none⟩ (.bool false)).alloc (.cells #[.int .i64 (p : Int), .int .u32 (q : Int), .int .i64 Kv, .int .u32 (v.k : Int), .bool false] 106)).heap.size by rw [hsza]; omega) HGX.out.gk.size
      have f1 : some w.heap.size ≠ obk A3 := fun e => (HGX.out.na _ e).elim HX.out.1 fun h => by rw [hsza] at h; omega
      have f2 : some w.heap.size ≠ obk (some ⟨tb, 0, none⟩) := fun e => (HGX.out.nt _ e).elim HX.out.2.1 fun h => by rw [hsza] at h; omega
      have f3 : ∀ j, j < ((L ++ pF g m t1 p q (ts ++ [⟨(p : Int), q, Kv, v.k, true⟩]) (s + 1)) ++ pF g m t2 p q (ts ++ [⟨(p : Int), q, Kv, v.k, false⟩]) (s + 1)).length → some w.heap.size ≠ obk (S3 j).1 := fun j hj e => (HGX.out.nc j hj _ e).elim (fun ⟨j', hj', e'⟩ => HX.out.2.2 j' hj' e') fun h => by rw [hsza] at h; omega
      have g1 : some lb ≠ obk A3 := fun e => (HGX.out.na _ e).elim HLL.out.1 fun h => by rw [hsza] at h; omega
      have g2 : some lb ≠ obk (some ⟨tb, 0, none⟩) := fun e => (HGX.out.nt _ e).elim HLL.out.2 fun h => by rw [hsza] at h; omega
      exact ⟨.inr (.inr ⟨by go_num, by rw [← List.append_assoc]; exact ⟨A3, cA3, _, cT3, S3, false, HGZ.out, HA7, e1, e2, hs7, ⟨f1, f2, f3⟩, g1, g2⟩⟩), by simp [intOf]⟩
    · obtain ⟨A1, cA1, T1, cT1, S1, bb, hG, _⟩ := hinv
      have HG := Lib.hid hG
      clear hG
      go_wp2
      refine bodyPost_end (results_none rfl _ _ _) rfl ?_
      exact ⟨rfl, _, _, _, _, _, HG.out⟩
end Go.Proofs.Ytmndolojfdekdaa

/-
  Layer 27: all paths gathered. (paths.gather)
-/
namespace Go.Proofs.Ytmndolojfdekdaa
open Go.RowKit Go.Shelf
set_option linter.unusedVariables false

theorem fol_all (x : Bxs) (ho : x.ok) (g : Nat → IV) (n : Nat) (hF : Fmd g n) (hv : ∀ i, i < n → (g i).ok) (hk : ∀ i, i < n → okI (g i) = true) : ∀ m, FolI x g n m
  | 0 => fun i hm hi => by omega
  | m + 1 => fun i hm hi p q d kk b s w L ts A cA T cT S h hp hq hkk hs hts hL => by
    have ih := fol_all x ho g n hF hv hk m
    have hoi := hk i hi
    by_cases h14 : kd (g i) = 14
    · have e : pF g (m + 1) i p q ts s = [⟨ts, s + 1, (g i).k⟩] := by
        show (if kd (g i) = 14 then _ else _) = _
        rw [if_pos h14]
      rw [e] at hL ⊢
      exact fol_ret x ho g n hF hv hk m i hi p q d kk b s w L ts A cA T cT S h hp hq hkk hs hts h14 (by simpa using hL)
    · by_cases hbr : brK (kd (g i)) = true
      · exact fol_br x ho g n hF hv hk m ih i hi p q d kk b s w L ts A cA T cT S h hp hq hkk hs hts hbr hm hL
      · by_cases h13 : kd (g i) = 13
        · exact fol_jump x ho g n hF hv hk m ih i hi p q d kk b s w L ts A cA T cT S h hp hq hkk hs hts h13 hm hL
        · by_cases h1 : kd (g i) = 1
          · exact fol_load x ho g n hF hv hk m ih i hi p q d kk b s w L ts A cA T cT S h hp hq hkk hs hts h1 hm hL
          · have h21 : kd (g i) = 21 := by
              unfold okI mayS at hoi
              simp [h14, hbr, h13, h1] at hoi
              exact hoi.2
            exact fol_and x ho g n hF hv hk m ih i hi p q d kk b s w L ts A cA T cT S h hp hq hkk hs hts h21 hm hL
theorem mk_pths (N : Nat) (hN : N ≤ 5000) (w : World) : ∃ cur, (Instr.makeSlice 45 (.int .i64 0) (.int .i64 (N : Int))).run Try.prog w = .ok (.slice (some ⟨w.heap.size, 0, none⟩) 0 N) (w.alloc (.cells cur 56)) ∧
    ∀ F, OwnC (w.alloc (.cells cur 56)) 0 56 3 (some ⟨w.heap.size, 0, none⟩) 0 N F := by
  obtain ⟨i0, hi0, hz0, hz1, hz2⟩ := info_parts infoPv
  have hr := run_make (P := Try.prog) w 45 56 i0 _ Try.underlying45 hi0 hz0 .i64 .i64 0 N (by omega) (by omega) (by rw [hz2]; omega) (by omega)
  rw [hz1] at hr
  simp only [Int.toNat_natCast] at hr
  refine ⟨_, hr, fun F => ?_⟩
  have hl := World.ownsRow_made (base := 0) (e := 56) (size := 3) w (madeCells (Value.agg #[.slice none 0 0, .int .i64 0, .int .u32 0]).cells (N * 3)) N (Nat.zero_le _) (by unfold maxLen; omega) (size_madeCells _ _)
  unfold OwnC
  simpa using hl
/-- Paths in memory. -/
def Pths (w : World) (A : Option Addr) (c : Nat) (L : List PV) (S : Nat → Option Addr × Nat) : Prop := Cel w w.heap.size 3 A L.length c (pvcell (fun i => L[i]!) S) ∧ ∀ i, i < L.length → Cel w w.heap.size 5 (S i).1 (L[i]!).ts.length (S i).2 (tscell fun j => (L[i]!).ts[j]!)
set_option maxRecDepth 100000 in
set_option maxHeartbeats 8000000 in
theorem gather_any (pb n N : Nat) (g : Nat → IV) (w : World) (hF : Fmd g n) (hpb : pb < w.heap.size) (hP : ∀ i, i < n * 6 → w.cell? ⟨pb, i, none⟩ = some (fcell g i)) (hv : ∀ i, i < n → (g i).ok) (hk : ∀ i, i < n → okI (g i) = true) (hN : N ≤ 5000) (hL : (pF g n 0 0 0 [] 0).length ≤ 100000) :
    Calls Try.prog 47 #[.slice (some ⟨pb, 0, none⟩) n n, .int .i64 (N : Int)] w fun e w' => ∃ A' cA' S', e = .returned (.slice A' (pF g n 0 0 0 [] 0).length cA') ∧ Pths w' A' cA' (pF g n 0 0 0 [] 0) S' ∧ Below w.heap.size w w' := by
  obtain ⟨cur, hmk, hrow⟩ := mk_pths N hN (w.alloc (.cells #[.slice (some ⟨pb, 0, none⟩) n n] 101))
  have hs1 : (w.alloc (.cells #[.slice (some ⟨pb, 0, none⟩) n n] 101)).heap.size = w.heap.size + 1 := by simp
  rw [hs1] at hmk hrow
  have ho : Bxs.ok (⟨w.heap.size, w.heap.size + 1 + 1, w.heap.size + 1 + 1 + 1, w.heap.size + 1 + 1 + 1 + 1, pb⟩ : Bxs) := ⟨by show w.heap.size ≠ w.heap.size + 1 + 1; omega, by show w.heap.size ≠ w.heap.size + 1 + 1 + 1; omega, by show w.heap.size + 1 + 1 + 1 + 1 ≠ w.heap.size + 1 + 1; omega, by show w.heap.size + 1 + 1 + 1 + 1 ≠ w.heap.size + 1 + 1 + 1; omega, by show pb ≠ w.heap.size + 1 + 1; omega, by show pb ≠ w.heap.size + 1 + 1 + 1; omega, by show w.heap.size + 1 + 1 ≠ w.heap.size + 1 + 1 + 1; omega⟩
  have hb5 : Below w.heap.size w (((((w.alloc (.cells #[.slice (some ⟨pb, 0, none⟩) n n] 101)).alloc (.cells cur 56)).alloc (.cells #[.slice (some ⟨w.heap.size + 1, 0, none⟩) 0 N] 45)).alloc (.cells #[.slice none 0 0] 54)).alloc (.cells #[.func (.func 70) #[] #[.pointer (some ⟨w.heap.size, 0, none⟩), .pointer (some ⟨w.heap.size + 1 + 1, 0, none⟩), .pointer (some ⟨w.heap.size + 1 + 1 + 1, 0, none⟩), .pointer (some ⟨w.heap.size + 1 + 1 + 1 + 1, 0, none⟩)]] 138)) := ((((((Below.refl _ _).alloc (Nat.le_refl _) _).alloc (by simp) _).alloc (by simp <;> omega) _).alloc (by simp <;> omega) _).alloc (by simp <;> omega) _)
  have hz5 : (((((w.alloc (.cells #[.slice (some ⟨pb, 0, none⟩) n n] 101)).alloc (.cells cur 56)).alloc (.cells #[.slice (some ⟨w.heap.size + 1, 0, none⟩) 0 N] 45)).alloc (.cells #[.slice none 0 0] 54)).alloc (.cells #[.func (.func 70) #[] #[.pointer (some ⟨w.heap.size, 0, none⟩), .pointer (some ⟨w.heap.size + 1 + 1, 0, none⟩), .pointer (some ⟨w.heap.size + 1 + 1 + 1, 0, none⟩), .pointer (some ⟨w.heap.size + 1 + 1 + 1 + 1, 0, none⟩)]] 138)).heap.size = w.heap.size + 5 := by simp
  have hfm : FM (⟨w.heap.size, w.heap.size + 1 + 1, w.heap.size + 1 + 1 + 1, w.heap.size + 1 + 1 + 1 + 1, pb⟩ : Bxs) g n (((((w.alloc (.cells #[.slice (some ⟨pb, 0, none⟩) n n] 101)).alloc (.cells cur 56)).alloc (.cells #[.slice (some ⟨w.heap.size + 1, 0, none⟩) 0 N] 45)).alloc (.cells #[.slice none 0 0] 54)).alloc (.cells #[.func (.func 70) #[] #[.pointer (some ⟨w.heap.size, 0, none⟩), .pointer (some ⟨w.heap.size + 1 + 1, 0, none⟩), .pointer (some ⟨w.heap.size + 1 + 1 + 1, 0, none⟩), .pointer (some ⟨w.heap.size + 1 + 1 + 1 + 1, 0, none⟩)]] 138)) [] [] (some ⟨w.heap.size + 1, 0, none⟩) N none 0 (fun _ => (none, 0)) := by
    refine ⟨?_, ?_, fun i hi => (hb5.cell (p := ⟨pb, i, none⟩) hpb).trans (hP i hi), ?_, ?_, (((hrow _).alloc _).alloc _).alloc _, fun b e => ?_, ?_, OwnC.nil_, (fun b e => by cases e), (fun i hi => by cases hi)⟩
    · rw [hz5]
      exact ⟨by show w.heap.size < _; omega, by show w.heap.size + 1 + 1 < _; omega, by show w.heap.size + 1 + 1 + 1 < _; omega, by show w.heap.size + 1 + 1 + 1 + 1 < _; omega, by show pb < _; omega⟩
    · show RowC (((((w.alloc (.cells #[.slice (some ⟨pb, 0, none⟩) n n] 101)).alloc (.cells cur 56)).alloc (.cells #[.slice (some ⟨w.heap.size + 1, 0, none⟩) 0 N] 45)).alloc (.cells #[.slice none 0 0] 54)).alloc (.cells #[.func (.func 70) #[] #[.pointer (some ⟨w.heap.size, 0, none⟩), .pointer (some ⟨w.heap.size + 1 + 1, 0, none⟩), .pointer (some ⟨w.heap.size + 1 + 1 + 1, 0, none⟩), .pointer (some ⟨w.heap.size + 1 + 1 + 1 + 1, 0, none⟩)]] 138)) w.heap.size #[.slice (some ⟨pb, 0, none⟩) n n] 101
      exact RowC.alloc (RowC.alloc (RowC.alloc (RowC.alloc (RowC.new w _ _ _ rfl) _) _) _) _
    · show RowC (((((w.alloc (.cells #[.slice (some ⟨pb, 0, none⟩) n n] 101)).alloc (.cells cur 56)).alloc (.cells #[.slice (some ⟨w.heap.size + 1, 0, none⟩) 0 N] 45)).alloc (.cells #[.slice none 0 0] 54)).alloc (.cells #[.func (.func 70) #[] #[.pointer (some ⟨w.heap.size, 0, none⟩), .pointer (some ⟨w.heap.size + 1 + 1, 0, none⟩), .pointer (some ⟨w.heap.size + 1 + 1 + 1, 0, none⟩), .pointer (some ⟨w.heap.size + 1 + 1 + 1 + 1, 0, none⟩)]] 138)) (w.heap.size + 1 + 1 + 1 + 1) _ _
      exact RowC.new _ _ _ _ (by simp)
    · show RowC (((((w.alloc (.cells #[.slice (some ⟨pb, 0, none⟩) n n] 101)).alloc (.cells cur 56)).alloc (.cells #[.slice (some ⟨w.heap.size + 1, 0, none⟩) 0 N] 45)).alloc (.cells #[.slice none 0 0] 54)).alloc (.cells #[.func (.func 70) #[] #[.pointer (some ⟨w.heap.size, 0, none⟩), .pointer (some ⟨w.heap.size + 1 + 1, 0, none⟩), .pointer (some ⟨w.heap.size + 1 + 1 + 1, 0, none⟩), .pointer (some ⟨w.heap.size + 1 + 1 + 1 + 1, 0, none⟩)]] 138)) (w.heap.size + 1 + 1) #[.slice (some ⟨w.heap.size + 1, 0, none⟩) 0 N] 45
      exact RowC.alloc (RowC.alloc (RowC.new _ _ _ _ (by simp)) _) _
    · have e2 : b = w.heap.size + 1 := Option.some.inj e
      subst e2
      exact ⟨by show w.heap.size + 1 ≠ w.heap.size; omega, by show w.heap.size + 1 ≠ w.heap.size + 1 + 1; omega, by show w.heap.size + 1 ≠ w.heap.size + 1 + 1 + 1; omega, by show w.heap.size + 1 ≠ w.heap.size + 1 + 1 + 1 + 1; omega, by show w.heap.size + 1 ≠ pb; omega⟩
    · show RowC (((((w.alloc (.cells #[.slice (some ⟨pb, 0, none⟩) n n] 101)).alloc (.cells cur 56)).alloc (.cells #[.slice (some ⟨w.heap.size + 1, 0, none⟩) 0 N] 45)).alloc (.cells #[.slice none 0 0] 54)).alloc (.cells #[.func (.func 70) #[] #[.pointer (some ⟨w.heap.size, 0, none⟩), .pointer (some ⟨w.heap.size + 1 + 1, 0, none⟩), .pointer (some ⟨w.heap.size + 1 + 1 + 1, 0, none⟩), .pointer (some ⟨w.heap.size + 1 + 1 + 1 + 1, 0, none⟩)]] 138)) (w.heap.size + 1 + 1 + 1) #[.slice none 0 0] 54
      exact RowC.alloc (RowC.new _ _ _ _ (by simp)) _
  have hR := fol_all (⟨w.heap.size, w.heap.size + 1 + 1, w.heap.size + 1 + 1 + 1, w.heap.size + 1 + 1 + 1 + 1, pb⟩ : Bxs) ho g n hF hv hk n 0 (by omega) hF.pos 0 0 0 0 false 0 (((((w.alloc (.cells #[.slice (some ⟨pb, 0, none⟩) n n] 101)).alloc (.cells cur 56)).alloc (.cells #[.slice (some ⟨w.heap.size + 1, 0, none⟩) 0 N] 45)).alloc (.cells #[.slice none 0 0] 54)).alloc (.cells #[.func (.func 70) #[] #[.pointer (some ⟨w.heap.size, 0, none⟩), .pointer (some ⟨w.heap.size + 1 + 1, 0, none⟩), .pointer (some ⟨w.heap.size + 1 + 1 + 1, 0, none⟩), .pointer (some ⟨w.heap.size + 1 + 1 + 1 + 1, 0, none⟩)]] 138)) [] [] (some ⟨w.heap.size + 1, 0, none⟩) N none 0 (fun _ => (none, 0)) hfm (by decide) (by decide) (by decide) (by have := hF.le; omega) (by have := hF.le; simp; omega) (by simpa using hL)
  rw [List.nil_append] at hR
  have HR := Lib.hid hR
  have HB5 := Lib.hid hb5
  have HZ5 := Lib.hid hz5
  clear hR hfm hb5 hz5 hrow hs1
  go_enter Try.func47, Try.ntmps47
  go_wp2_with fail
  refine HR.out.mono ?_
  rintro e w' ⟨rfl, A', cA', T', cT', S', hG⟩
  have al0 : w'.cell? ⟨w.heap.size + 1 + 1, 0, none⟩ = some (.slice A' (pF g n 0 0 0 [] 0).length cA') := RowAt.cell hG.fm.al 0 _ rfl
  have HP := Lib.hid (⟨hG.fm.alo.cel, fun i hi => (hG.fm.cl i hi).1⟩ : Pths w' A' cA' (pF g n 0 0 0 [] 0) S')
  have HBE : Hid (Below w.heap.size w w') := Lib.hid (HB5.out.trans ⟨hG.gk.os, hG.gk.tape, hG.gk.output, hG.gk.size, fun k hk2 => hG.gk.block k (by rw [HZ5.out]; omega) (by show k ≠ w.heap.size + 1 + 1; omega) (by show k ≠ w.heap.size + 1 + 1 + 1; omega) (fun e => by have e2 : k = w.heap.size + 1 := Option.some.inj e; omega) (fun e => by cases e)⟩)
  clear hG HR HB5
  go_wp2
  go_ret
  exact ⟨_, _, _, rfl, HP.out, HBE.out⟩
end Go.Proofs.Ytmndolojfdekdaa

/-
  Layer 27: paths.All of a plain program; the chapter's example.
-/
namespace Go.Proofs.Ytmndolojfdekdaa
open Go.RowKit Go.Shelf
set_option linter.unusedVariables false

set_option maxRecDepth 100000 in
set_option maxHeartbeats 8000000 in
theorem all_ok (A : Option Addr) (n c : Nat) (g : Nat → IV) (w : World) (hr : Ins w w.heap.size A n c g) (hp : plainB g n = true) (hN : cntP g n ≤ 4096) (hL : (pF g n 0 0 0 [] 0).length ≤ 100000) :
    Calls Try.prog 20 #[.slice A n c] w fun e w' => ∃ A' cA' S', e = .returned (.tuple #[.slice A' (pF g n 0 0 0 [] 0).length cA', .int .i64 0]) ∧ Pths w' A' cA' (pF g n 0 0 0 [] 0) S' ∧ Below w.heap.size w w' := by
  obtain ⟨hF, hk, _⟩ := plainB_facts hp
  have HP := Lib.hid (placesOf_any A n c g w hr)
  have hv := hr.2
  have hn0 : ¬ (n : Int) = 0 := by have := hF.pos; omega
  go_enter Try.func20, Try.ntmps20
  go_wp2_with fail
  refine HP.out.mono ?_
  rintro e w1 ⟨⟨hp0, _⟩ | ⟨_, pb, rfl, hO⟩, hB1⟩
  · rw [hp] at hp0; cases hp0
  obtain ⟨pb', epb, _, hpb1, hpc⟩ := hO.at_ hF.pos
  obtain rfl : pb = pb' := by injection epb with e; injection e
  have HC := Lib.hid (count_any pb n g w1 hF hpb1 (fun i hi => (hpc i hi).1) hv hk)
  have HB1 := Lib.hid hB1
  have HPC : Hid (∀ W, Below w1.heap.size w1 W → Calls Try.prog 47 #[.slice (some ⟨pb, 0, none⟩) n n, .int .i64 (cntP g n : Nat)] W fun e w' => ∃ A' cA' S', e = .returned (.slice A' (pF g n 0 0 0 [] 0).length cA') ∧ Pths w' A' cA' (pF g n 0 0 0 [] 0) S' ∧ Below W.heap.size W w') := Lib.hid fun W hW => gather_any pb n (cntP g n) g W hF (Nat.lt_of_lt_of_le hpb1 hW.size) (fun i hi => (hW.cell (p := ⟨pb, i, none⟩) hpb1).trans (hpc i hi).1) hv hk (by omega) hL
  obtain ⟨N, hNe⟩ : ∃ N, cntP g n = N := ⟨_, rfl⟩
  rw [hNe] at HC HPC hN
  have i4 : ¬ (N : Int) > 4096 := by omega
  clear hB1 hpc hO epb hNe HP hr
  go_wp2_with (first
    | (go_at_call 46; refine HC.out.mono ?_; rintro e w2 ⟨rfl, hB2⟩; have HB2 := Lib.hid hB2; clear hB2)
    | (go_at_call 47; refine (HPC.out _ HB2.out).mono ?_; rintro e w3 ⟨A', cA', S', rfl, hP3, hB3⟩; have HP3 := Lib.hid hP3; have HB3 := Lib.hid (HB1.out.trans ((HB2.out.trans (hB3.mono HB2.out.size)).mono HB1.out.size)); clear hP3 hB3))
  go_ret2
  exact ⟨_, _, _, rfl, HP3.out, HB3.out⟩
def exL : List IV := [⟨32, 0, 0, 0⟩, ⟨21, 0, 1, 1⟩, ⟨6, 0, 0, 2⟩, ⟨6, 0, 0, 3⟩]
def exG (i : Nat) : IV := exL.getD i ⟨0, 0, 0, 0⟩
def exP : List PV := [⟨[⟨0, 4294967295, 25, 1, true⟩], 3, 2⟩, ⟨[⟨0, 4294967295, 25, 1, false⟩], 3, 3⟩]
theorem ex_plain : plainB exG 4 = true := by decide +kernel
theorem ex_cnt : cntP exG 4 = 2 := by decide +kernel
theorem ex_pF : pF exG 4 0 0 0 [] 0 = exP := by kernel_rfl
theorem ex_ins (w : World) (E : TypeId) : Ins (w.alloc (.cells #[.int .u16 32, .int .u8 0, .int .u8 0, .int .u32 0, .int .u16 21, .int .u8 0, .int .u8 1, .int .u32 1, .int .u16 6, .int .u8 0, .int .u8 0, .int .u32 2, .int .u16 6, .int .u8 0, .int .u8 0, .int .u32 3] E)) (w.heap.size + 1) (some ⟨w.heap.size, 0, none⟩) 4 4 exG := by
  refine ⟨Cel.mk_ (Nat.lt_succ_self _) (Nat.le_refl _) (by decide) fun i hi => ?_, fun i hi => ?_⟩
  · have hi' : i < 16 := by omega
    rw [Nat.zero_add, cell_of_row _ _ _ _ _ _ (heap_alloc_last w _)]
    match i, hi' with
    | 0, _ | 1, _ | 2, _ | 3, _ | 4, _ | 5, _ | 6, _ | 7, _ | 8, _ | 9, _ | 10, _ | 11, _ | 12, _ | 13, _ | 14, _ | 15, _ => rfl
    | i + 16, h => omega
  · match i, hi with
    | 0, _ | 1, _ | 2, _ | 3, _ => exact ⟨by decide, by decide, by decide, by decide⟩
set_option maxRecDepth 100000 in
set_option maxHeartbeats 8000000 in
theorem awake27_any (w : World) : Calls Try.prog 23 #[] w fun e w' => e = .returned (.bool true) ∧ Below w.heap.size w w' := by
  have hb0 : Below w.heap.size w (w.alloc (.cells #[.int .u16 32, .int .u8 0, .int .u8 0, .int .u32 0, .int .u16 21, .int .u8 0, .int .u8 1, .int .u32 1, .int .u16 6, .int .u8 0, .int .u8 0, .int .u32 2, .int .u16 6, .int .u8 0, .int .u8 0, .int .u32 3] 71)) := (Below.refl _ _).alloc (Nat.le_refl _) _
  have hA := all_ok (some ⟨w.heap.size, 0, none⟩) 4 4 exG _ ((ex_ins w 71).more (by simp)) ex_plain (by rw [ex_cnt]; decide) (by rw [ex_pF]; decide)
  rw [ex_pF] at hA
  have HA := Lib.hid hA
  have HB := Lib.hid hb0
  clear hA hb0
  go_enter Try.func23, Try.ntmps23
  go_wp2_with fail
  refine HA.out.mono ?_
  rintro e w1 ⟨A', cA', S', rfl, ⟨hc, ht⟩, hB1⟩
  have HBE := Lib.hid (HB.out.trans (hB1.mono HB.out.size))
  have ht0 := ht 0 (by decide)
  obtain ⟨b, off, rfl, _, hcc⟩ := hc.at_ (by decide)
  have u0 : w1.cell? ⟨b, off, none⟩ = some (.slice (S' 0).1 1 (S' 0).2) := hcc 0 (by decide)
  have u2 : w1.cell? ⟨b, off + 2, none⟩ = some (.int .u32 2) := hcc 2 (by decide)
  have u5 : w1.cell? ⟨b, off + 5, none⟩ = some (.int .u32 3) := hcc 5 (by decide)
  have u52 : w1.cell? ⟨b, off + 3 + 2, none⟩ = some (.int .u32 3) := hcc 5 (by decide)
  have ht0 : Cel w1 w1.heap.size 5 (S' 0).1 1 (S' 0).2 (tscell fun j => ([⟨0, 4294967295, 25, 1, true⟩] : List TV)[j]!) := ht0
  obtain ⟨tb, tof, etb, _, htc⟩ := ht0.at_ (by decide)
  rw [etb] at u0
  have t0 : w1.cell? ⟨tb, tof, none⟩ = some (.int .i64 0) := htc 0 (by decide)
  have t1 : w1.cell? ⟨tb, tof + 1, none⟩ = some (.int .u32 4294967295) := htc 1 (by decide)
  have t2 : w1.cell? ⟨tb, tof + 2, none⟩ = some (.int .i64 25) := htc 2 (by decide)
  have t3 : w1.cell? ⟨tb, tof + 3, none⟩ = some (.int .u32 1) := htc 3 (by decide)
  have t4 : w1.cell? ⟨tb, tof + 4, none⟩ = some (.bool true) := htc 4 (by decide)
  generalize (S' 0).2 = sc at *
  clear hc ht hcc ht0 htc hB1 etb HA HB
  go_wp2
  go_ret
  exact ⟨rfl, HBE.out⟩
end Go.Proofs.Ytmndolojfdekdaa

/-
  Layer 27: how many paths there are; paths.All of any program.
-/
namespace Go.Proofs.Ytmndolojfdekdaa
open Go.RowKit Go.Shelf
set_option linter.unusedVariables false

/-- How many ways lead from a place to a return, by fuel. -/
def pN (g : Nat → IV) : Nat → Nat → Nat
  | 0, _ => 0
  | m + 1, i =>
    if kd (g i) = 14 then 1
    else if brK (kd (g i)) = true then pN g m (i + 1 + (g i).t) + pN g m (i + 1 + (g i).f)
    else if kd (g i) = 13 then pN g m (i + 1 + (g i).k)
    else pN g m (i + 1)
theorem pN_s (g : Nat → IV) (m i : Nat) : pN g (m + 1) i = if kd (g i) = 14 then 1 else if brK (kd (g i)) = true then pN g m (i + 1 + (g i).t) + pN g m (i + 1 + (g i).f) else if kd (g i) = 13 then pN g m (i + 1 + (g i).k) else pN g m (i + 1) := rfl
theorem pF_len (g : Nat → IV) : ∀ (m i p q : Nat) (ts : List TV) (s : Nat), (pF g m i p q ts s).length = pN g m i := by
  intro m
  induction m with
  | zero => intro i p q ts s; rfl
  | succ m ih =>
    intro i p q ts s
    unfold pF pN
    by_cases h1 : kd (g i) = 14
    · rw [if_pos h1, if_pos h1]; rfl
    rw [if_neg h1, if_neg h1]
    by_cases h2 : brK (kd (g i)) = true
    · rw [if_pos h2, if_pos h2, List.length_append, ih, ih]
    rw [if_neg h2, if_neg h2]
    by_cases h3 : kd (g i) = 13
    · rw [if_pos h3, if_pos h3, ih]
    rw [if_neg h3, if_neg h3]
    split
    · rw [ih]
    · rw [ih]
theorem nx_ret {v : IV} (h : kd v = 14) (i : Nat) : nexts v i = [] := by rw [← nexts_if]; unfold nextsK; rw [h]; rfl
theorem nx_ja {v : IV} (h : kd v = 13) (i : Nat) : nexts v i = [i + 1 + v.k] := by rw [← nexts_if]; unfold nextsK; rw [h]; rfl
theorem brK_ne {K : Int} (h : brK K = true) : K ≠ 14 ∧ K ≠ 15 ∧ K ≠ 13 ∧ K ≠ 1 ∧ K ≠ 21 := by
  unfold brK at h
  simp only [Bool.or_eq_true, beq_iff_eq] at h
  omega
theorem nx_br {v : IV} (h : brK (kd v) = true) (i : Nat) : nexts v i = [i + 1 + v.t, i + 1 + v.f] := by
  obtain ⟨a, b, c, _⟩ := brK_ne h
  rw [← nexts_if]; unfold nextsK
  rw [if_neg (by simp [a, b]), if_neg (by simp [c]), if_pos (by exact h)]
theorem nx_on {v : IV} (h1 : kd v ≠ 14) (h5 : kd v ≠ 15) (h2 : brK (kd v) = false) (h3 : kd v ≠ 13) (i : Nat) : nexts v i = [i + 1] := by
  rw [← nexts_if]; unfold nextsK
  rw [if_neg (by simp [h1, h5]), if_neg (by simp [h3]), if_neg (by unfold brK at h2; rw [h2]; decide)]
theorem pN_fuel {g : Nat → IV} {n : Nat} (F : Fmd g n) (hk : ∀ i, i < n → okI (g i) = true) : ∀ m i, i < n → n - i ≤ m → pN g (m + 1) i = pN g m i := by
  intro m
  induction m with
  | zero => intro i hi h; omega
  | succ m ih =>
    intro i hi h
    have hnx : ∀ to ∈ nexts (g i) i, pN g (m + 1) to = pN g m to := fun to ht => ih to (next_lt F hi ht) (by have := next_gt ht; omega)
    rw [pN_s g (m + 1) i, pN_s g m i]
    by_cases h1 : kd (g i) = 14
    · rw [if_pos h1, if_pos h1]
    rw [if_neg h1, if_neg h1]
    by_cases h2 : brK (kd (g i)) = true
    · have e := nx_br h2 i
      rw [if_pos h2, if_pos h2, hnx _ (by rw [e]; simp), hnx _ (by rw [e]; simp)]
    rw [if_neg h2, if_neg h2]
    by_cases h3 : kd (g i) = 13
    · have e := nx_ja h3 i
      rw [if_pos h3, if_pos h3, hnx _ (by rw [e]; simp)]
    rw [if_neg h3, if_neg h3]
    have e := nx_on h1 (okI_15 (hk i hi)) (by simpa using h2) h3 i
    rw [hnx _ (by rw [e]; simp)]
/-- The ways that are still to come, of one place. -/
theorem pN_eq {g : Nat → IV} {n : Nat} (F : Fmd g n) (hk : ∀ i, i < n → okI (g i) = true) {i : Nat} (hi : i < n) :
    pN g n i = if kd (g i) = 14 then 1 else if brK (kd (g i)) = true then pN g n (i + 1 + (g i).t) + pN g n (i + 1 + (g i).f) else if kd (g i) = 13 then pN g n (i + 1 + (g i).k) else pN g n (i + 1) := by
  have h := pN_fuel F hk n i hi (Nat.sub_le _ _)
  rw [← h, pN_s g n i]
/-- Counted from the end on, no further than to a bound. -/
theorem lgC_T {g : Nat → IV} {n : Nat} (F : Fmd g n) (hk : ∀ i, i < n → okI (g i) = true) : ∀ k, k ≤ n → (∀ i, n - k ≤ i → i < n → lgC g (dnto n k) i = min (pN g n i) 4097) ∧ ∀ i, i < n - k → lgC g (dnto n k) i = 0 := by
  intro k
  induction k with
  | zero => intro _; exact ⟨fun i h1 h2 => by omega, fun i h => rfl⟩
  | succ k ih =>
    intro hkn
    obtain ⟨ih1, ih2⟩ := ih (by omega)
    rw [dnto_succ (n := n) (k := k) (by omega), lgC_snoc]
    refine ⟨fun i h1 h2 => ?_, fun i h => ?_⟩
    · by_cases hi : i = n - 1 - k
      · have hnx : ∀ to ∈ nexts (g i) i, lgC g (dnto n k) to = min (pN g n to) 4097 := fun to ht => ih1 to (by have := next_gt ht; omega) (next_lt F h2 ht)
        have h0 : lgC g (dnto n k) i = 0 := ih2 i (by omega)
        unfold stpC
        rw [if_pos hi, pN_eq F hk h2]
        show addC _ (nexts (g (n - 1 - k)) (n - 1 - k)) (if kd (g (n - 1 - k)) = 14 then 1 else lgC g (dnto n k) (n - 1 - k)) = _
        rw [← hi, h0]
        by_cases h1 : kd (g i) = 14
        · rw [if_pos h1, if_pos h1, nx_ret h1]; rfl
        rw [if_neg h1, if_neg h1]
        by_cases h2' : brK (kd (g i)) = true
        · have e := nx_br h2' i
          rw [if_pos h2', e]
          simp only [addC, List.foldl_cons, List.foldl_nil]
          rw [hnx _ (by rw [e]; simp), hnx _ (by rw [e]; simp)]
          omega
        rw [if_neg h2']
        by_cases h3 : kd (g i) = 13
        · have e := nx_ja h3 i
          rw [if_pos h3, e]
          simp only [addC, List.foldl_cons, List.foldl_nil]
          rw [hnx _ (by rw [e]; simp)]
          omega
        rw [if_neg h3]
        have e := nx_on h1 (okI_15 (hk i h2)) (by simpa using h2') h3 i
        rw [e]
        simp only [addC, List.foldl_cons, List.foldl_nil]
        rw [hnx _ (by rw [e]; simp)]
        omega
      · unfold stpC
        rw [if_neg hi]
        exact ih1 i (by omega) h2
    · unfold stpC
      rw [if_neg (by show ¬ i = n - 1 - k; omega)]
      exact ih2 i (by omega)
theorem cntP_eq {g : Nat → IV} {n : Nat} (F : Fmd g n) (hk : ∀ i, i < n → okI (g i) = true) : cntP g n = min (pN g n 0) 4097 := by
  have h := (lgC_T F hk n (Nat.le_refl _)).1 0 (by omega) F.pos
  rw [dnto_all] at h
  exact h
/-- What All answers. -/
def AllR (g : Nat → IV) (n : Nat) (e : Ending) (w' : World) : Prop :=
  (plainB g n = false ∧ e = .returned (.tuple #[.slice none 0 0, .int .i64 18])) ∨ (plainB g n = true ∧ 4096 < pN g n 0 ∧ e = .returned (.tuple #[.slice none 0 0, .int .i64 3])) ∨
    (plainB g n = true ∧ pN g n 0 ≤ 4096 ∧ ∃ A' cA' S', e = .returned (.tuple #[.slice A' (pF g n 0 0 0 [] 0).length cA', .int .i64 0]) ∧ Pths w' A' cA' (pF g n 0 0 0 [] 0) S')
set_option maxRecDepth 100000 in
set_option maxHeartbeats 8000000 in
theorem all_any (A : Option Addr) (n c : Nat) (g : Nat → IV) (w : World) (hr : Ins w w.heap.size A n c g) :
    Calls Try.prog 20 #[.slice A n c] w fun e w' => AllR g n e w' ∧ Below w.heap.size w w' := by
  by_cases hp : plainB g n = true
  · obtain ⟨hF, hk, _⟩ := plainB_facts hp
    have hc := cntP_eq hF hk
    by_cases hN : pN g n 0 ≤ 4096
    · refine (all_ok A n c g w hr hp (by omega) (by rw [pF_len]; omega)).mono ?_
      rintro e w' ⟨A', cA', S', rfl, h1, h2⟩
      exact ⟨.inr (.inr ⟨hp, hN, A', cA', S', rfl, h1⟩), h2⟩
    · have hc1 : cntP g n = 4097 := by omega
      have HP := Lib.hid (placesOf_any A n c g w hr)
      have hv := hr.2
      have hn0 : ¬ (n : Int) = 0 := by have := hF.pos; omega
      go_enter Try.func20, Try.ntmps20
      go_wp2_with fail
      refine HP.out.mono ?_
      rintro e w1 ⟨⟨hp0, _⟩ | ⟨_, pb, rfl, hO⟩, hB1⟩
      · rw [hp] at hp0; cases hp0
      obtain ⟨pb', epb, _, hpb1, hpc⟩ := hO.at_ hF.pos
      obtain rfl : pb = pb' := by injection epb with e; injection e
      have HC := Lib.hid (count_any pb n g w1 hF hpb1 (fun i hi => (hpc i hi).1) hv hk)
      have HB1 := Lib.hid hB1
      rw [hc1] at HC
      clear hB1 hpc hO epb HP hr
      go_wp2_with (go_at_call 46; refine HC.out.mono ?_; rintro e w2 ⟨rfl, hB2⟩; have HB2 := Lib.hid hB2; clear hB2)
      go_ret2
      exact ⟨.inr (.inl ⟨hp, by omega, rfl⟩), HB1.out.trans (HB2.out.mono HB1.out.size)⟩
  · have hp' : plainB g n = false := by simpa using hp
    have HP := Lib.hid (placesOf_any A n c g w hr)
    go_enter Try.func20, Try.ntmps20
    go_wp2_with fail
    refine HP.out.mono ?_
    rintro e w1 ⟨⟨_, rfl⟩ | ⟨hp1, _⟩, hB1⟩
    · have HB1 := Lib.hid hB1
      clear hB1 HP hr
      go_wp2
      go_ret2
      exact ⟨.inl ⟨hp', rfl⟩, HB1.out⟩
    · rw [hp'] at hp1; cases hp1
end Go.Proofs.Ytmndolojfdekdaa
