/-
  What a program does, as plain functions: one instruction, a run. Nothing here speaks of a program text.
-/
import Derived.Test.YtmndolojfdekdaaKa
import Derived.Test.YtmndolojfdekdaaWa
namespace Go.Proofs.Ytmndolojfdekdaa
open Go.RowKit

/-- What a run has at hand. -/
structure VS where
  a : Nat
  x : Nat
  cl : Nat → Nat
  nx : Nat
  st : Nat
  ld : List Nat
/-- What an instruction does: on, or an end with a number. -/
inductive Res where
  | go (s : VS)
  | stop (n : Nat) (s : VS)
def VS.seta (s : VS) (n : Nat) : VS := ⟨n, s.x, s.cl, s.nx, s.st, s.ld⟩
def VS.setx (s : VS) (n : Nat) : VS := ⟨s.a, n, s.cl, s.nx, s.st, s.ld⟩
def VS.setc (s : VS) (k n : Nat) : VS := ⟨s.a, s.x, fun i => if i = k then n else s.cl i, s.nx, s.st, s.ld⟩
def VS.setn (s : VS) (n : Nat) : VS := ⟨s.a, s.x, s.cl, n, s.st, s.ld⟩
/-- An instruction's other side. -/
def oth (v : IV) (s : VS) : Nat := if xx v then s.x else v.k
def doK (f : Nat → Nat) (j : Nat) (v : IV) (s : VS) (o : Nat) : Res :=
  match j with
  | 1 => .go ⟨num (fun i => f (v.k + i)) 4, s.x, s.cl, s.nx, s.st, s.ld ++ [v.k]⟩
  | 2 => .go (s.seta v.k)
  | 3 => .go (s.seta (s.cl v.k))
  | 4 => .go (s.seta 64)
  | 5 => .go (s.setx v.k)
  | 6 => .go (s.setx (s.cl v.k))
  | 7 => .go (s.setx 64)
  | 8 => .go (s.setc v.k s.a)
  | 9 => .go (s.setc v.k s.x)
  | 10 => .go (s.setx s.a)
  | 11 => .go (s.seta s.x)
  | 12 => .go (s.seta ((4294967296 - s.a) % 4294967296))
  | 13 => .go (s.setn (s.nx + v.k))
  | 14 => .stop v.k s
  | 15 => .stop s.a s
  | 16 => .go (s.seta ((s.a + o) % 4294967296))
  | 17 => .go (s.seta ((s.a + (4294967296 - o)) % 4294967296))
  | 18 => .go (s.seta (s.a * o % 4294967296))
  | 19 => if o = 0 then .stop 0 s else .go (s.seta (s.a / o))
  | 20 => .go (s.seta (s.a ||| o))
  | 21 => .go (s.seta (s.a &&& o))
  | 22 => .go (s.seta (s.a * 2 ^ (o % 32) % 4294967296))
  | 23 => .go (s.seta (s.a / 2 ^ (o % 32)))
  | 24 => .go (s.seta (s.a ^^^ o))
  | 25 => .go (s.setn (s.nx + (if s.a = o then v.t else v.f)))
  | 26 => .go (s.setn (s.nx + (if o < s.a then v.t else v.f)))
  | 27 => .go (s.setn (s.nx + (if o ≤ s.a then v.t else v.f)))
  | 28 => .go (s.setn (s.nx + (if s.a &&& o ≠ 0 then v.t else v.f)))
  | _ => .go s
/-- The state in which the instruction at hand is done: counted, the next one is behind it. -/
def VS.tick (s : VS) : VS := ⟨s.a, s.x, s.cl, s.nx + 1, s.st + 1, s.ld⟩
def step (f : Nat → Nat) (v : IV) (s : VS) : Res := doK f (kd v).toNat v s.tick (oth v s)
def runF (g : Nat → IV) (f : Nat → Nat) : Nat → VS → Option (Nat × VS)
  | 0, _ => none
  | n + 1, s => match step f (g s.nx) s with
    | .go s' => runF g f n s'
    | .stop v s' => some (v, s')
def zst : VS := ⟨0, 0, fun _ => 0, 0, 0, []⟩
def VS.ok (s : VS) : Prop := s.a < 4294967296 ∧ s.x < 4294967296 ∧ (∀ i, s.cl i < 4294967296) ∧ (∀ k ∈ s.ld, k < 4294967296)
theorem oth_lt (v : IV) (s : VS) (hv : v.ok) (hs : s.ok) : oth v s < 4294967296 := by
  unfold oth; split
  · exact hs.2.1
  · exact hv.2.2.2
theorem VS.seta_ok {s : VS} (h : s.ok) {n : Nat} (hn : n < 4294967296) : (s.seta n).ok := ⟨hn, h.2.1, h.2.2.1, h.2.2.2⟩
theorem VS.setx_ok {s : VS} (h : s.ok) {n : Nat} (hn : n < 4294967296) : (s.setx n).ok := ⟨h.1, hn, h.2.2.1, h.2.2.2⟩
theorem VS.setn_ok {s : VS} (h : s.ok) {n : Nat} : (s.setn n).ok := ⟨h.1, h.2.1, h.2.2.1, h.2.2.2⟩
theorem VS.setc_ok {s : VS} (h : s.ok) {k n : Nat} (hn : n < 4294967296) : (s.setc k n).ok := ⟨h.1, h.2.1, fun i => by
  show (if i = k then n else s.cl i) < _
  split
  · exact hn
  · exact h.2.2.1 i, h.2.2.2⟩
theorem or_lt32 {a b : Nat} (h1 : a < 4294967296) (h2 : b < 4294967296) : a ||| b < 4294967296 := Nat.or_lt_two_pow (n := 32) h1 h2
theorem xor_lt32 {a b : Nat} (h1 : a < 4294967296) (h2 : b < 4294967296) : a ^^^ b < 4294967296 := Nat.xor_lt_two_pow (n := 32) h1 h2
def Res.ok : Res → Prop
  | .go s => s.ok
  | .stop n s => n < 4294967296 ∧ s.ok
/-- What an instruction makes is in bounds. -/
theorem doK_ok (f : Nat → Nat) (hf : ∀ i, f i < 256) (j : Nat) (v : IV) (hv : v.ok) (s : VS) (hs : s.ok) (o : Nat) (ho : o < 4294967296) :
    (doK f j v s o).ok := by
  unfold doK
  split
  · exact ⟨num_lt _ 4 (fun i _ => hf _), hs.2.1, hs.2.2.1, fun k hk => by
      rcases List.mem_append.1 hk with h | h
      · exact hs.2.2.2 k h
      · simp at h; rw [h]; exact hv.2.2.2⟩
  · exact VS.seta_ok hs hv.2.2.2
  · exact VS.seta_ok hs (hs.2.2.1 _)
  · exact VS.seta_ok hs (by decide)
  · exact VS.setx_ok hs hv.2.2.2
  · exact VS.setx_ok hs (hs.2.2.1 _)
  · exact VS.setx_ok hs (by decide)
  · exact VS.setc_ok hs hs.1
  · exact VS.setc_ok hs hs.2.1
  · exact VS.setx_ok hs hs.1
  · exact VS.seta_ok hs hs.2.1
  · exact VS.seta_ok hs (Nat.mod_lt _ (by decide))
  · exact VS.setn_ok hs
  · exact ⟨hv.2.2.2, hs⟩
  · exact ⟨hs.1, hs⟩
  · exact VS.seta_ok hs (Nat.mod_lt _ (by decide))
  · exact VS.seta_ok hs (Nat.mod_lt _ (by decide))
  · exact VS.seta_ok hs (Nat.mod_lt _ (by decide))
  · split
    · exact ⟨by decide, hs⟩
    · exact VS.seta_ok hs (Nat.lt_of_le_of_lt (Nat.div_le_self _ _) hs.1)
  · exact VS.seta_ok hs (or_lt32 hs.1 ho)
  · exact VS.seta_ok hs (Nat.lt_of_le_of_lt Nat.and_le_left hs.1)
  · exact VS.seta_ok hs (Nat.mod_lt _ (by decide))
  · exact VS.seta_ok hs (Nat.lt_of_le_of_lt (Nat.div_le_self _ _) hs.1)
  · exact VS.seta_ok hs (xor_lt32 hs.1 ho)
  · exact VS.setn_ok hs
  · exact VS.setn_ok hs
  · exact VS.setn_ok hs
  · exact VS.setn_ok hs
  · exact hs
/-- How far an instruction leads, and how it counts. -/
theorem doK_next (f : Nat → Nat) (j : Nat) (v : IV) (s : VS) (o : Nat) (s' : VS) (h : doK f j v s o = .go s') :
    s'.st = s.st ∧ (s'.nx = s.nx ∨ (j = 13 ∧ s'.nx = s.nx + v.k) ∨ ((j = 25 ∨ j = 26 ∨ j = 27 ∨ j = 28) ∧ (s'.nx = s.nx + v.t ∨ s'.nx = s.nx + v.f))) ∧ (s'.ld = s.ld ∨ (j = 1 ∧ s'.ld = s.ld ++ [v.k])) ∧ j ≠ 14 ∧ j ≠ 15 := by
  unfold doK at h
  split at h
  case h_19 => 
    split at h
    · cases h
    · injection h with h; subst h
      exact ⟨rfl, .inl rfl, .inl rfl, by decide, by decide⟩
  all_goals first
    | cases h
    | skip
  all_goals (first
    | exact ⟨rfl, .inl rfl, .inr ⟨rfl, rfl⟩, by decide, by decide⟩
    | exact ⟨rfl, .inl rfl, .inl rfl, by decide, by decide⟩
    | exact ⟨rfl, .inr (.inl ⟨rfl, rfl⟩), .inl rfl, by decide, by decide⟩
    | (refine ⟨rfl, .inr (.inr ⟨by decide, ?_⟩), .inl rfl, by decide, by decide⟩
       show _ + (if _ then _ else _) = _ ∨ _ + (if _ then _ else _) = _
       split
       · exact .inl rfl
       · exact .inr rfl)
    | (refine ⟨rfl, .inl rfl, .inl rfl, ?_, ?_⟩ <;> (rintro rfl; simp at *)))
end Go.Proofs.Ytmndolojfdekdaa
