/-
  What Lines tells of a text that is right, and of another one; a text with a line more behind it.
-/
import Derived.Test.YtieebnninhbdoaaTk
namespace Go.Proofs.Ytieebnninhbdoaa
open Go.RowKit

theorem tell_ws (ls : List Ln) : ls.map (·.ws) = (ls.map Ln.tell).map (·.2) := by
  rw [List.map_map]; rfl
/-- What Lines tells of a text that is right. -/
def OkL (W : World) (L : List UInt8) (e : Ending) (w' : World) : Prop :=
  ∃ A c ls, e = .returned (.tuple #[.slice A ls.length c, .int .i64 0, .int .i64 0]) ∧ (ls.map Ln.tell = (linesF L).1 ∧ OwnC w' W.heap.size 35 2 A ls.length c (lcell ls) ∧ LR w' ls) ∧ Below W.heap.size W w'
theorem lines_okL (s : ByteArray) (hs : s.size ≤ 65536) (hz : (linesF s.data.toList).2 = 0) (W : World) : Calls Try.prog 10 #[.string s] W (OkL W s.data.toList) :=
  (lines_any s hs W).mono fun e w' hh => by
    obtain ⟨hc, hb⟩ := hh
    rcases hc with ⟨_, A, c, ls, he, h1, h2, h3⟩ | ⟨h0, _⟩
    · exact ⟨A, c, ls, he, ⟨h1, h2, h3⟩, hb⟩
    · exact absurd hz h0
theorem lines_noL (s : ByteArray) (hs : s.size ≤ 65536) (hz : (linesF s.data.toList).2 ≠ 0) (W : World) : Calls Try.prog 10 #[.string s] W fun e w' => e = .returned (.tuple #[.slice none 0 0, .int .i64 ((linesF s.data.toList).2 : Nat), .int .i64 13]) ∧ Below W.heap.size W w' :=
  (lines_any s hs W).mono fun e w' hh => by
    obtain ⟨hc, hb⟩ := hh
    rcases hc with ⟨h0, _⟩ | ⟨_, he⟩
    · exact absurd h0 hz
    · exact ⟨he, hb⟩
theorem scan_len : ∀ (lines : List (List UInt8)) (n : Nat) (acc : List (Nat × List (List UInt8))), (scan n lines acc).1.length ≤ acc.length + lines.length
  | [], _, acc => Nat.le_refl _
  | l :: r, n, acc => by
    show (if (nb l).all okS = true then scan (n + 1) r (if wds (nb l) = [] then acc else acc ++ [(n, wds (nb l))]) else ([], n)).1.length ≤ _
    split
    · have h1 := scan_len r (n + 1) (if wds (nb l) = [] then acc else acc ++ [(n, wds (nb l))])
      have h2 : (if wds (nb l) = [] then acc else acc ++ [(n, wds (nb l))]).length ≤ acc.length + 1 := by
        split
        · omega
        · simp
      simp only [List.length_cons]
      omega
    · exact Nat.zero_le _
theorem lines_okL_len {L : List UInt8} {ls : List Ln} (h : ls.map Ln.tell = (linesF L).1) : ls.length ≤ L.length + 1 := by
  have h1 := scan_len (lns L) 1 []
  have h2 := (lns_length L).2
  have h3 := congrArg List.length h
  rw [List.length_map] at h3
  have h4 : scan 1 (lns L) [] = linesF L := rfl
  rw [h4] at h1
  simp only [List.length_nil] at h1
  omega
theorem numF_ws (l : List (List (List UInt8))) (k : Nat) : (numF k l).map (·.2) = l := by
  apply List.ext_getElem?
  intro i
  rw [List.getElem?_map, numF_at]
  cases l[i]? <;> rfl

theorem lines_some (s : ByteArray) (hs : s.size ≤ 65536) (W : World) : Calls Try.prog 10 #[.string s] W fun e w' => ∃ A n c k k', e = .returned (.tuple #[.slice A n c, .int .i64 k, .int .i64 k']) ∧ Below W.heap.size W w' :=
  (lines_any s hs W).mono fun e w' hh => by
    obtain ⟨hc, hb⟩ := hh
    rcases hc with ⟨_, A, c, ls, he, h1, h2, h3⟩ | ⟨_, he⟩
    · exact ⟨A, _, c, _, _, he, hb⟩
    · exact ⟨none, 0, 0, _, _, he, hb⟩
theorem lns_app : ∀ (l r : List UInt8), lns (l ++ 10 :: r) = lns l ++ lns r
  | [], r => by
    show (if (10 : UInt8) = 10 then [] :: lns r else _) = _
    rw [if_pos rfl]
    rfl
  | c :: t, r => by
    have ih := lns_app t r
    by_cases h : c = 10
    · show (if c = 10 then [] :: lns (t ++ 10 :: r) else _) = (if c = 10 then [] :: lns t else _) ++ _
      rw [if_pos h, if_pos h, ih]
      rfl
    · show (if c = 10 then _ else match lns (t ++ 10 :: r) with | [] => [[c]] | x :: q => (c :: x) :: q) = (if c = 10 then _ else match lns t with | [] => [[c]] | x :: q => (c :: x) :: q) ++ _
      rw [if_neg h, if_neg h, ih]
      cases ht : lns t with
      | nil =>
        have := (lns_length t).1
        rw [ht] at this
        simp at this
      | cons x q => rfl
theorem lns_cons_len (c : UInt8) (t : List UInt8) : (lns (c :: t)).length = (lns t).length + (if c = 10 then 1 else 0) := by
  by_cases h : c = 10
  · show (if c = 10 then [] :: lns t else _ : List (List UInt8)).length = _
    rw [if_pos h, if_pos h]
    rfl
  · show (if c = 10 then _ else match lns t with | [] => [[c]] | x :: q => (c :: x) :: q : List (List UInt8)).length = _
    rw [if_neg h, if_neg h]
    cases ht : lns t with
    | nil =>
      have := (lns_length t).1
      rw [ht] at this
      simp at this
    | cons x q => rfl
theorem lns_snoc_len (c : UInt8) : ∀ (l : List UInt8), (lns (l ++ [c])).length = (lns l).length + (if c = 10 then 1 else 0)
  | [] => lns_cons_len c []
  | d :: t => by
    show (lns (d :: (t ++ [c]))).length = _
    rw [lns_cons_len, lns_cons_len, lns_snoc_len c t]
    omega
theorem many_step (L : List UInt8) (i : Nat) (b : UInt8) (h : L[i]? = some b) : (lns (L.take (i + 1))).length = (lns (L.take i)).length + (if b = 10 then 1 else 0) := by
  rw [List.take_add_one, h]
  exact lns_snoc_len b _
theorem scan_app (b : List (List UInt8)) : ∀ (a : List (List UInt8)) (n : Nat) (acc : List (Nat × List (List UInt8))), 1 ≤ n → scan n (a ++ b) acc = if (scan n a acc).2 = 0 then scan (n + a.length) b (scan n a acc).1 else ([], (scan n a acc).2)
  | [], n, acc, _ => rfl
  | l :: r, n, acc, hn => by
    show (if (nb l).all okS = true then scan (n + 1) (r ++ b) (if wds (nb l) = [] then acc else acc ++ [(n, wds (nb l))]) else ([], n)) = _
    have e : scan n (l :: r) acc = if (nb l).all okS = true then scan (n + 1) r (if wds (nb l) = [] then acc else acc ++ [(n, wds (nb l))]) else ([], n) := rfl
    rw [e]
    by_cases h : (nb l).all okS = true
    · rw [if_pos h, if_pos h, scan_app b r (n + 1) _ (by omega), List.length_cons, show n + (r.length + 1) = n + 1 + r.length by omega]
    · rw [if_neg h, if_neg h, if_neg (by show ¬ n = 0; omega)]
theorem scan_one (k : Nat) (m : List UInt8) (acc : List (Nat × List (List UInt8))) : scan k [m] acc = if (nb m).all okS = true then (if wds (nb m) = [] then acc else acc ++ [(k, wds (nb m))], 0) else ([], k) := rfl
theorem lines_more (L M : List UInt8) (hM : ∀ c ∈ M, c ≠ 10) : linesF (L ++ 10 :: M) = if (linesF L).2 = 0 then scan (nl L + 1) [M] (linesF L).1 else ([], (linesF L).2) := by
  have h := scan_app [M] (lns L) 1 [] (Nat.le_refl _)
  have e1 : scan 1 (lns L) [] = linesF L := rfl
  rw [e1] at h
  have e2 : linesF (L ++ 10 :: M) = scan 1 (lns L ++ [M]) [] := by
    unfold linesF
    rw [lns_app, lns_none M hM]
  rw [e2, h, Nat.add_comm 1]
theorem lines_lone (M : List UInt8) (hM : ∀ c ∈ M, c ≠ 10) : linesF M = scan 1 [M] [] := by
  unfold linesF
  rw [lns_none M hM]
end Go.Proofs.Ytieebnninhbdoaa
