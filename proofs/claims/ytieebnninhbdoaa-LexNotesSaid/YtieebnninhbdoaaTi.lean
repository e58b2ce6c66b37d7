/-
  The laws' told, at lines that are the same; what the chapter's example says.
-/
import Derived.Test.YtieebnninhbdoaaTh
import Derived.BigQuiet
namespace Go.Proofs.Ytieebnninhbdoaa
open Go.RowKit

theorem scan_le (N : Nat) : ∀ (lines : List (List UInt8)) (n : Nat) (acc : List (Nat × List (List UInt8))), (∀ l ∈ lines, l.length ≤ N) → (∀ x ∈ acc, x.2.length ≤ N) → ∀ x ∈ (scan n lines acc).1, x.2.length ≤ N
  | [], _, acc, _, h2, x, hx => h2 x hx
  | l :: r, n, acc, h1, h2, x, hx => by
    have hx' : x ∈ (if (nb l).all okS = true then scan (n + 1) r (if wds (nb l) = [] then acc else acc ++ [(n, wds (nb l))]) else ([], n)).1 := hx
    split at hx'
    · refine scan_le N r (n + 1) _ (fun y hy => h1 y (List.mem_cons_of_mem _ hy)) ?_ x hx'
      intro y hy
      split at hy
      · exact h2 y hy
      · rcases List.mem_append.1 hy with hy | hy
        · exact h2 y hy
        · rw [List.mem_singleton] at hy
          subst hy
          have e1 := wdF_length (nb l) [] []
          have e2 : (nb l).length ≤ l.length := (List.takeWhile_sublist _).length_le
          have e3 := h1 l List.mem_cons_self
          simp only [List.length_nil] at e1
          show (wdF (nb l) [] []).length ≤ N
          omega
    · simp at hx'
theorem lines_le {L : List UInt8} {ls : List Ln} (he : ls.map Ln.tell = (linesF L).1) : ∀ x ∈ ls, x.ws.length ≤ L.length := fun x hx => by
  have h := scan_le L.length (lns L) 1 [] (fun l hl => lns_mem L l hl) (fun y hy => by cases hy) x.tell (by
    show x.tell ∈ (linesF L).1
    rw [← he]
    exact List.mem_map_of_mem hx)
  exact h
set_option maxHeartbeats 8000000 in
set_option maxRecDepth 100000 in
theorem told_same (A A' : Option Addr) (c c' : Nat) (ls lw : List Ln) (B B' : Nat) (w : World) (h1 : Cel w B 2 A ls.length c (lcell ls)) (h2 : Cel w B' 2 A' lw.length c' (lcell lw)) (r1 : LR w ls) (r2 : LR w lw) (he : ls.map Ln.tell = lw.map Ln.tell) (hbd : ∀ x ∈ ls, x.ws.length ≤ 4294967296) :
    Calls Try.prog 12 #[.slice A ls.length c, .slice A' lw.length c'] w fun e w' => e = .returned (.bool true) ∧ ∃ q, w' = w.drewN q := by
  have hl : ls.length = lw.length := by
    have := congrArg List.length he
    simpa using this
  obtain ⟨n, hn⟩ : ∃ n, lw.length = n := ⟨_, rfl⟩
  have HF : Hid (∀ k, k < n → ∃ x y : Ln, ls[k]? = some x ∧ lw[k]? = some y ∧ x.num = y.num ∧ x.ws = y.ws) := Lib.hid fun k hk => by
    obtain ⟨x, hx⟩ : ∃ x, ls[k]? = some x := ⟨_, List.getElem?_eq_getElem (by omega)⟩
    obtain ⟨y, hy⟩ : ∃ y, lw[k]? = some y := ⟨_, List.getElem?_eq_getElem (by omega)⟩
    have e := congrArg (fun l : List (Nat × List (List UInt8)) => l[k]?) he
    simp only [List.getElem?_map, hx, hy, Option.map_some] at e
    injection e with e
    injection e with e1 e2
    exact ⟨x, y, hx, hy, e1, e2⟩
  obtain ⟨hc1, hm1⟩ := h1.le
  obtain ⟨hc2, hm2⟩ := h2.le
  unfold maxLen at hm1 hm2
  rw [hl] at hc1 h1 ⊢
  rw [hn] at h1 h2 hc1 hc2 ⊢
  have HC := Lib.hid (And.intro h1 (And.intro h2 (And.intro r1 r2)))
  have HBD := Lib.hid hbd
  clear h1 h2 r1 r2 hl hn he hbd
  go_enter Try.func12, Try.ntmps12
  go_wp2
  go_loopw [5] (fun i wr => ∃ (k q : Nat), k ≤ n ∧ i = .int .i64 k ∧ wr = w.drewN q) (fun i _ => n - (intOf i).toNat)
  case atStart => exact ⟨0, 0, Nat.zero_le _, rfl, rfl⟩
  case round =>
    obtain ⟨k, q, hk, rfl, hwr⟩ := hrel
    have HWR := Lib.hid hwr
    by_cases hlt : k < n
    · obtain ⟨x, y, hx, hy, e1, e2⟩ := HF.out k hlt
      obtain ⟨h1, h2, r1, r2⟩ := HC.out
      obtain ⟨b1, o1, rfl, _, hc1'⟩ := h1.at_ (by omega)
      obtain ⟨b2, o2, rfl, _, hc2'⟩ := h2.at_ (by omega)
      obtain ⟨hne1, _, hw1⟩ := r1 x (List.mem_of_getElem? hx)
      obtain ⟨hne2, _, hw2⟩ := r2 y (List.mem_of_getElem? hy)
      have c1 : ∀ W q, W = w.drewN q → W.cell? ⟨b1, o1 + k * 2, none⟩ = some (.int .i64 (x.num : Nat)) := fun W q hW => by
        subst hW
        have := hc1' (k * 2) (by omega)
        unfold lcell at this
        rw [show k * 2 / 2 = k by omega, hx, show k * 2 % 2 = 0 by omega] at this
        exact this
      have c2 : ∀ W q, W = w.drewN q → W.cell? ⟨b1, o1 + k * 2 + 1, none⟩ = some (.slice (some ⟨x.b, 0, none⟩) x.ws.length x.cap) := fun W q hW => by
        subst hW
        have := hc1' (k * 2 + 1) (by omega)
        unfold lcell at this
        rw [show (k * 2 + 1) / 2 = k by omega, hx, show (k * 2 + 1) % 2 = 1 by omega] at this
        exact this
      have d1 : ∀ W q, W = w.drewN q → W.cell? ⟨b2, o2 + k * 2, none⟩ = some (.int .i64 (x.num : Nat)) := fun W q hW => by
        subst hW
        have := hc2' (k * 2) (by omega)
        unfold lcell at this
        rw [show k * 2 / 2 = k by omega, hy, show k * 2 % 2 = 0 by omega] at this
        rw [e1]; exact this
      have d2 : ∀ W q, W = w.drewN q → W.cell? ⟨b2, o2 + k * 2 + 1, none⟩ = some (.slice (some ⟨y.b, 0, none⟩) x.ws.length y.cap) := fun W q hW => by
        subst hW
        have := hc2' (k * 2 + 1) (by omega)
        unfold lcell at this
        rw [show (k * 2 + 1) / 2 = k by omega, hy, show (k * 2 + 1) % 2 = 1 by omega] at this
        rw [e2]; exact this
      have i1 : (0 : Int) ≤ (k : Int) := by omega
      have i2 : (k : Int) < (n : Int) := by omega
      have i3 : IntKind.i64.wrap ((k : Int) + 1) = (k : Int) + 1 := IntWalk.i64_in _ (by omega)
      have v1 := c1 wr q hwr
      have v2 := c2 wr q hwr
      have v3 := d1 wr q hwr
      have v4 := d2 wr q hwr
      have HCD := Lib.hid (And.intro c2 d2)
      have HE2 := Lib.hid e2
      clear hc1' hc2' h1 h2 hwr c1 c2 d1 d2 e1 e2
      go_wp2
      go_quiet (fail)
      have hq2 : wr.drewN nq = w.drewN (q + nq) := by rw [HWR.out, World.drewN_drewN]
      obtain ⟨W2, hW2⟩ : ∃ W2, wr.drewN nq = W2 := ⟨_, rfl⟩
      rw [hW2] at hq2 ⊢
      have v2' := HCD.out.1 W2 _ hq2
      have v4' := HCD.out.2 W2 _ hq2
      have HQ2 := Lib.hid hq2
      clear hW2 hq2
      go_wp2
      go_loopw [6] (fun i wr => ∃ (j p : Nat), j ≤ x.ws.length ∧ i = .int .i64 j ∧ wr = w.drewN p) (fun i _ => x.ws.length - (intOf i).toNat)
      case atStart => exact ⟨0, _, Nat.zero_le _, rfl, HQ2.out⟩
      case round =>
        obtain ⟨j, p, hj, rfl, hwr2⟩ := hrel
        have v2 := HCD.out.1 wr p hwr2
        have v4 := HCD.out.2 wr p hwr2
        have HW3 := Lib.hid hwr2
        by_cases hjl : j < x.ws.length
        · obtain ⟨z, hz⟩ : ∃ z, x.ws[j]? = some z := ⟨_, List.getElem?_eq_getElem hjl⟩
          have s1 : wr.cell? ⟨x.b, j, none⟩ = some (.string ⟨z.toArray⟩) := by rw [hwr2]; exact hw1.cell hz
          have s2 : wr.cell? ⟨y.b, j, none⟩ = some (.string ⟨z.toArray⟩) := by rw [hwr2]; exact hw2.cell (by rw [← HE2.out]; exact hz)
          have j1 : (0 : Int) ≤ (j : Int) := by omega
          have j2 : (j : Int) < (x.ws.length : Int) := by omega
          have j3 : IntKind.i64.wrap ((j : Int) + 1) = (j : Int) + 1 := IntWalk.i64_in _ (by have := HBD.out x (List.mem_of_getElem? hx); omega)
          clear hwr2
          go_wp2
          go_quiet (fail)
          go_wp2
          exact ⟨⟨j + 1, _, hjl, by go_num, by rw [HW3.out, World.drewN_drewN]⟩, by simp [intOf]; omega⟩
        · clear hwr2
          obtain rfl : j = x.ws.length := by omega
          have j2 : ¬ ((x.ws.length : Nat) : Int) < (x.ws.length : Int) := by omega
          go_wp2
          exact ⟨⟨k + 1, p, hlt, by go_num, HW3.out⟩, by simp [intOf]; omega⟩
    · clear hwr
      obtain rfl : k = n := by omega
      have i2 : ¬ (k : Int) < (k : Int) := by omega
      go_wp2
      go_ret
      exact ⟨rfl, q, HWR.out⟩
theorem ex_told (base c : Nat) (A : Option Addr) (ls : List Ln) (w1 : World) (hlen : ls.length = 2) (h1 : ls.map Ln.tell = [(1, [[97], [98]]), (3, [[100]])]) (h2 : OwnC w1 base 35 2 A ls.length c (lcell ls)) (h3 : LR w1 ls) :
    Calls Try.prog 12 #[.slice A 2 c, .slice (some ⟨w1.heap.size + 1 + 1, 0, none⟩) 2 2] (((w1.alloc (.cells #[.string ⟨#[97]⟩, .string ⟨#[98]⟩] 9)).alloc (.cells #[.string ⟨#[100]⟩] 9)).alloc (.cells #[.int .i64 1, .slice (some ⟨w1.heap.size, 0, none⟩) 2 2, .int .i64 3, .slice (some ⟨w1.heap.size + 1, 0, none⟩) 1 1] 60))
      fun e w' => e = .returned (.bool true) ∧ ∃ q, w' = (((w1.alloc (.cells #[.string ⟨#[97]⟩, .string ⟨#[98]⟩] 9)).alloc (.cells #[.string ⟨#[100]⟩] 9)).alloc (.cells #[.int .i64 1, .slice (some ⟨w1.heap.size, 0, none⟩) 2 2, .int .i64 3, .slice (some ⟨w1.heap.size + 1, 0, none⟩) 1 1] 60)).drewN q := by
  have hbV : Below w1.heap.size w1 (((w1.alloc (.cells #[.string ⟨#[97]⟩, .string ⟨#[98]⟩] 9)).alloc (.cells #[.string ⟨#[100]⟩] 9)).alloc (.cells #[.int .i64 1, .slice (some ⟨w1.heap.size, 0, none⟩) 2 2, .int .i64 3, .slice (some ⟨w1.heap.size + 1, 0, none⟩) 1 1] 60)) := (((Below.refl _ w1).alloc (Nat.le_refl _) _).alloc (by simp) _).alloc (by simp; omega) _
  have r0 : RowC (((w1.alloc (.cells #[.string ⟨#[97]⟩, .string ⟨#[98]⟩] 9)).alloc (.cells #[.string ⟨#[100]⟩] 9)).alloc (.cells #[.int .i64 1, .slice (some ⟨w1.heap.size, 0, none⟩) 2 2, .int .i64 3, .slice (some ⟨w1.heap.size + 1, 0, none⟩) 1 1] 60)) w1.heap.size #[.string ⟨#[97]⟩, .string ⟨#[98]⟩] 9 := h_old _ _ _ _ (h_old _ _ _ _ (h_last _ _ _ rfl))
  have r1 : RowC (((w1.alloc (.cells #[.string ⟨#[97]⟩, .string ⟨#[98]⟩] 9)).alloc (.cells #[.string ⟨#[100]⟩] 9)).alloc (.cells #[.int .i64 1, .slice (some ⟨w1.heap.size, 0, none⟩) 2 2, .int .i64 3, .slice (some ⟨w1.heap.size + 1, 0, none⟩) 1 1] 60)) (w1.heap.size + 1) #[.string ⟨#[100]⟩] 9 := h_old _ _ _ _ (h_last _ _ _ (by simp))
  have r2 : RowC (((w1.alloc (.cells #[.string ⟨#[97]⟩, .string ⟨#[98]⟩] 9)).alloc (.cells #[.string ⟨#[100]⟩] 9)).alloc (.cells #[.int .i64 1, .slice (some ⟨w1.heap.size, 0, none⟩) 2 2, .int .i64 3, .slice (some ⟨w1.heap.size + 1, 0, none⟩) 1 1] 60)) (w1.heap.size + 1 + 1) #[.int .i64 1, .slice (some ⟨w1.heap.size, 0, none⟩) 2 2, .int .i64 3, .slice (some ⟨w1.heap.size + 1, 0, none⟩) 1 1] 60 := h_last _ _ _ (by simp)
  generalize (((w1.alloc (.cells #[.string ⟨#[97]⟩, .string ⟨#[98]⟩] 9)).alloc (.cells #[.string ⟨#[100]⟩] 9)).alloc (.cells #[.int .i64 1, .slice (some ⟨w1.heap.size, 0, none⟩) 2 2, .int .i64 3, .slice (some ⟨w1.heap.size + 1, 0, none⟩) 1 1] 60)) = V at *
  have e : ls.map Ln.tell = [(⟨1, w1.heap.size, 2, [[97], [98]]⟩ : Ln), ⟨3, w1.heap.size + 1, 1, [[100]]⟩].map Ln.tell := h1
  have h := told_same A (some ⟨w1.heap.size + 1 + 1, 0, none⟩) c 2 ls [⟨1, w1.heap.size, 2, [[97], [98]]⟩, ⟨3, w1.heap.size + 1, 1, [[100]]⟩] _ V.heap.size V ((h2.below hbV (Nat.le_refl _)).cel) (Cel.mk_ r2.lt (Nat.le_refl _) (by decide) fun i hi => by
    rw [Nat.zero_add]
    have hi' : i < 4 := hi
    match i, hi' with
    | 0, _ => exact r2.cell 0 _ rfl
    | 1, _ => exact r2.cell 1 _ rfl
    | 2, _ => exact r2.cell 2 _ rfl
    | 3, _ => exact r2.cell 3 _ rfl) (h3.below hbV) (fun x hx => by
      rcases List.mem_cons.1 hx with rfl | hx
      · refine ⟨List.cons_ne_nil _ _, Nat.le_refl _, _, r0, fun j x hx => ?_⟩
        match j, hx with
        | 0, hx => cases hx; rfl
        | 1, hx => cases hx; rfl
      · rw [List.mem_singleton] at hx
        subst hx
        refine ⟨List.cons_ne_nil _ _, Nat.le_refl _, _, r1, fun j x hx => ?_⟩
        match j, hx with
        | 0, hx => cases hx; rfl) e (fun x hx => by
      have hm : x.tell ∈ ls.map Ln.tell := List.mem_map_of_mem hx
      rw [h1] at hm
      rcases List.mem_cons.1 hm with hm | hm
      · have := congrArg (fun p : Nat × List (List UInt8) => p.2.length) hm
        have e2 : x.ws.length = 2 := this
        omega
      · rw [List.mem_singleton] at hm
        have := congrArg (fun p : Nat × List (List UInt8) => p.2.length) hm
        have e2 : x.ws.length = 1 := this
        omega)
  rw [hlen] at h
  exact h

abbrev exL : ByteArray := ⟨#[97, 32, 98, 32, 35, 32, 99, 10, 10, 100]⟩
theorem ex_lines : linesF exL.data.toList = ([(1, [[97], [98]]), (3, [[100]])], 0) := by kernel_rfl
theorem awake13_any (w : World) : Calls Try.prog 13 #[] w fun e w' => e = .returned (.bool true) ∧ Below w.heap.size w w' := by
  have hlin := lines_any exL (by decide) w
  have hsm : (linesF exL.data.toList).1 = [(1, [[97], [98]]), (3, [[100]])] ∧ (linesF exL.data.toList).2 = 0 := by rw [ex_lines]; exact ⟨rfl, rfl⟩
  have hl2 : Calls Try.prog 10 #[.string exL] w fun e w' => ∃ A c ls, e = .returned (.tuple #[.slice A 2 c, .int .i64 0, .int .i64 0]) ∧ ls.length = 2 ∧ ls.map Ln.tell = [(1, [[97], [98]]), (3, [[100]])] ∧ OwnC w' w.heap.size 35 2 A ls.length c (lcell ls) ∧ LR w' ls ∧ Below w.heap.size w w' := hlin.mono fun e w' hh => by
    obtain ⟨hc, hb⟩ := hh
    rcases hc with ⟨_, A, c, ls, he, h1, h2, h3⟩ | ⟨h0, _⟩
    · rw [hsm.1] at h1
      have hlen : ls.length = 2 := by
        have := congrArg List.length h1
        simpa using this
      exact ⟨A, c, ls, by rw [he, hlen], hlen, h1, h2, h3, hb⟩
    · exact absurd hsm.2 h0
  clear hlin hsm
  go_enter Try.func13, Try.ntmps13
  go_wp2_with (first
    | (go_at_call 10; refine hl2.mono ?_; rintro e w1 ⟨A, c, ls, rfl, hlen, h1, h2, h3, hB1⟩)
    | (go_at_call 12; refine (ex_told _ c A ls w1 hlen h1 h2 h3).mono ?_; rintro e w2 ⟨rfl, q, rfl⟩))
  go_ret
  exact ⟨rfl, bdn (((hB1.alloc hB1.size _).alloc (by have := hB1.size; simp; omega) _).alloc (by have := hB1.size; simp; omega) _) q⟩
end Go.Proofs.Ytieebnninhbdoaa
