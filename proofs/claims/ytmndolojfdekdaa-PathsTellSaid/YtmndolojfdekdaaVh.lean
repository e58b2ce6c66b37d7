/-
  The map of the doings.
-/
import Derived.Test.YtmndolojfdekdaaVg
import Derived.Defers
import Derived.Recover
import Derived.Deep.LoopGhost
namespace Go.Proofs.Ytmndolojfdekdaa
open Go.RowKit

def fv (p : Int × Nat) : Int × Value := (p.1, .func (.func p.2) #[] #[])
def noKey (kv : List (Int × Nat)) (k : Int) : Bool := kv.all fun p => p.1 != k
theorem assocV_none (kv : List (Int × Nat)) (k : Int) (h : noKey kv k = true) : assocV (kv.map fv) k = none := by
  unfold assocV
  rw [List.find?_eq_none.2]
  · rfl
  · intro p hp
    obtain ⟨q, hq, rfl⟩ := List.mem_map.1 hp
    have := (List.all_eq_true.1 h) q hq
    simpa [fv] using this
theorem wpList_insF {P : Program} {w : World} {q : IntKind} {t kt et : TypeId} {b : Nat} {kv : List (Int × Nat)} {ops : Array Oper} {rest : List Oper} {o : Oper} {a : Act} {Q : Exit → Act → World → Prop} (hg : o.guard = none) (m x y : Operand) (hop : o.op = Op.insert t m x y)
    (ht : P.underlying t = some (.map kt et)) (hk : P.underlying kt = some (.int q)) (k : Int) (n : Nat) (hm : a.eval m = .map (some b)) (hx : a.eval x = .int q k) (hy : a.eval y = .func (.func n) #[] #[])
    {w0 : World} {B : Nat} (h : IsMapV q w b (kv.map fv)) (hn : noKey kv k = true) (hB : Below B w0 w) (hb : B ≤ b)
    (hK : ∀ w', IsMapV q w' b ((kv ++ [(k, n)]).map fv) → Below B w0 w' → wpList P ops Q rest (a.put o.dst undef) w') : wpList P ops Q (o :: rest) a w :=
  wpList_insV hg m x y hop ht hk k _ hm hx hy h (assocV_none kv k hn) hB hb fun w' h1 h2 => hK w' (by rw [List.map_append]; exact h1) h2

set_option maxRecDepth 100000 in
set_option maxHeartbeats 4000000 in
theorem doings_any (w : World) : Calls Try.prog 97 #[] w fun e w' => ∃ b, e = .returned (.map (some b)) ∧ w.heap.size ≤ b ∧ b < w'.heap.size ∧ IsMapV .i64 w' b doKV ∧ Below w.heap.size w w' := by
  have hmm := @run_makeMap Try.prog
  have hm : IsMapV .i64 (w.alloc (.map #[] 0)) w.heap.size (([] : List (Int × Nat)).map fv) := IsMapV.new .i64 w
  have hB : Below w.heap.size w (w.alloc (.map #[] 0)) := (Below.refl _ _).alloc (Nat.le_refl _) _
  go_enter Try.func97, Try.ntmps97
  go_wp2_with (refine wpList_insF rfl _ _ _ rfl Try.underlying178 Try.underlying78 _ _ rfl rfl rfl hm (by rfl) hB (Nat.le_refl _) ?_; clear hm hB; intro w' hm hB)
  go_ret
  exact ⟨_, rfl, Nat.le_refl _, hm.lt, hm, hB⟩
end Go.Proofs.Ytmndolojfdekdaa

/-
  The contract of vm.run: what a program does, as the plain function says it.
-/
namespace Go.Proofs.Ytmndolojfdekdaa
open Go.RowKit

/-- The cells of instructions that were looked up. -/
def kcell (g : Nat → IV) (i : Nat) : Value := (knA (g (i / 6))).getD (i % 6) undef
theorem kcell_at (g : Nat → IV) (k j : Nat) (hj : j < 6) : kcell g (k * 6 + j) = (knA (g k)).getD j undef := by
  unfold kcell; rw [show (k * 6 + j) / 6 = k from by omega, show (k * 6 + j) % 6 = j from by omega]
set_option maxRecDepth 100000 in
set_option maxHeartbeats 2000000 in
theorem catch_panicking (S H x n m : Nat) (A : Option Addr) (c : Nat) (w : World) (hS : w.cell? ⟨S, 19, none⟩ = some (.int .i64 n)) (hl : w.cell? ⟨S, 20, none⟩ = some (.slice A m c))
    (h0 : w.cell? ⟨H, 0, none⟩ = some (.int .u32 0)) (h1 : w.cell? ⟨H, 1, none⟩ = some (.int .i64 0)) (h2 : w.cell? ⟨H, 2, none⟩ = some (.slice none 0 0)) (z0 : w.frozen? ⟨H, 0, none⟩ = false) (z1 : w.frozen? ⟨H, 1, none⟩ = false) (z2 : w.frozen? ⟨H, 2, none⟩ = false) (older : List PanicEntry) :
    CallsD Try.prog 96 #[.pointer (some ⟨S, 0, none⟩), .pointer (some ⟨H, 0, none⟩)] (.panicking ({ v := .iface 176 (.int .u32 x), recovered := false } :: older)) w fun e u' w' =>
      e = .returned (.tuple #[]) ∧ u' = .panicking ({ v := .iface 176 (.int .u32 x), recovered := true } :: older) ∧ w' = ((w.setCell ⟨H, 0, none⟩ (.int .u32 x)).setCell ⟨H, 1, none⟩ (.int .i64 n)).setCell ⟨H, 2, none⟩ (.slice A m c) := by
  have hta : ∀ w : World, (Instr.typeAssert (.iface 176 (.int .u32 (x : Int))) 20 176 true).run Try.prog w = .ok (.tuple #[.int .u32 x, .bool true]) w := fun _ => by kernel_rfl
  refine callsD_of_wpS Try.func96 rfl fun c₀ cs hu => ?_
  apply wpS_seq
  apply wpS_region
  simp [wpOpsS, go_sem, recoverD, hu, Try.ntmps96, Exit.thenS, hta]
  apply wpS_seq
  apply wpS_region
  simp [wpOpsS, go_sem, Exit.thenS, Array.replicate_succ]
  refine wpS_cond (t := true) (by simp [Act.eval]) ?_
  simp only [if_true]
  refine wpS_of_wp ?_
  go_wp2
  simp [bodyPostS, results, Try.results96]

/-- An instruction leads on, and not too far. -/
theorem step_next (f : Nat → Nat) (g : Nat → IV) (n : Nat) (hal : ∀ i, i < n → alone (g i) (n - 1 - i) = 0) (hlast : isRet (g (n - 1)) = true) (s s' : VS) (hk : s.nx < n) (h : step f (g s.nx) s = .go s') :
    s.nx < s'.nx ∧ s'.nx < n ∧ s'.st = s.st + 1 ∧ (s'.ld = s.ld ∨ (kd (g s.nx) = 1 ∧ s'.ld = s.ld ++ [(g s.nx).k])) := by
  have hfi := fars_in g n s.nx hk (hal _ hk) hlast
  obtain ⟨h1, h2, h3, h4, h5⟩ := doK_next _ _ _ _ _ _ h
  have hkd := kd_range (g s.nx)
  have hnret : isRet (g s.nx) = false := by
    unfold isRet
    have e1 : kd (g s.nx) ≠ 14 := fun e => h4 (by rw [e]; rfl)
    have e2 : kd (g s.nx) ≠ 15 := fun e => h5 (by rw [e]; rfl)
    simp [e1, e2]
  have ht : s.tick.nx = s.nx + 1 := rfl
  have hl : s.tick.ld = s.ld := rfl
  have hs : s.tick.st = s.st + 1 := rfl
  rw [ht] at h2
  rw [hl] at h3
  rw [hs] at h1
  refine ⟨?_, ?_, h1, ?_⟩
  · rcases h2 with e | ⟨_, e⟩ | ⟨_, e | e⟩ <;> omega
  · unfold fars at hfi
    rw [hnret] at hfi
    simp only [Bool.false_eq_true, if_false] at hfi
    rcases h2 with e | ⟨hj, e⟩ | ⟨hj, e⟩
    · rw [e]
      by_cases c13 : kd (g s.nx) = 13
      · rw [if_pos c13] at hfi
        have := hfi _ (List.mem_singleton.2 rfl)
        omega
      · rw [if_neg c13] at hfi
        by_cases cb : isBr (g s.nx) = true
        · rw [if_pos cb] at hfi
          have := hfi (g s.nx).t (by simp)
          omega
        · rw [if_neg cb] at hfi
          have := hfi 0 (by simp)
          omega
    · have c13 : kd (g s.nx) = 13 := by omega
      rw [if_pos c13] at hfi
      have := hfi _ (List.mem_singleton.2 rfl)
      omega
    · have c13 : ¬ kd (g s.nx) = 13 := by omega
      have cb : isBr (g s.nx) = true := by
        unfold isBr
        rcases hj with h | h | h | h
        · have : kd (g s.nx) = 25 := by omega
          rw [this]; rfl
        · have : kd (g s.nx) = 26 := by omega
          rw [this]; rfl
        · have : kd (g s.nx) = 27 := by omega
          rw [this]; rfl
        · have : kd (g s.nx) = 28 := by omega
          rw [this]; rfl
      rw [if_neg c13, if_pos cb] at hfi
      have q1 := hfi (g s.nx).t (by simp)
      have q2 := hfi (g s.nx).f (by simp)
      rcases e with e | e <;> omega
  · rcases h3 with h | ⟨h, h'⟩
    · exact .inl h
    · exact .inr ⟨by omega, h'⟩
theorem run_total (f : Nat → Nat) (g : Nat → IV) (n : Nat) (hal : ∀ i, i < n → alone (g i) (n - 1 - i) = 0) (hlast : isRet (g (n - 1)) = true) :
    ∀ (fuel : Nat) (s : VS), s.nx < n → n - s.nx ≤ fuel → ∃ val sF, runF g f fuel s = some (val, sF) := by
  intro fuel
  induction fuel with
  | zero => intro s h1 h2; omega
  | succ k ih =>
    intro s h1 h2
    unfold runF
    rcases h : step f (g s.nx) s with s' | ⟨v, s'⟩
    · obtain ⟨q1, q2, _⟩ := step_next f g n hal hlast s s' h1 h
      exact ih s' q2 (by omega)
    · exact ⟨v, s', rfl⟩
end Go.Proofs.Ytmndolojfdekdaa
