/-
  The contract of lex.split.
-/
import Derived.Test.YtieebnninhbdoaaTb
namespace Go.Proofs.Ytieebnninhbdoaa
open Go.RowKit Go.Shelf

/-- What split tells: the words in a row of the call's own, or nothing. -/
def SplitP (w : World) (l : List UInt8) (e : Ending) (w' : World) : Prop :=
  (((nb l).all okS = true ∧ ∃ A, e = .returned (.tuple #[.slice (some ⟨A, 0, none⟩) (wds (nb l)).length (wds (nb l)).length, .bool true]) ∧ w.heap.size ≤ A ∧
      w'.ownsRow w.heap.size 9 1 (.slice (some ⟨A, 0, none⟩) (wds (nb l)).length (wds (nb l)).length) (wds (nb l)).length ((wds (nb l)).map fun x => Value.string ⟨x.toArray⟩)) ∨
    ((nb l).all okS = false ∧ e = .returned (.tuple #[.slice none 0 0, .bool false]))) ∧ Below w.heap.size w w'
theorem ownsRow_lower {w : World} {base base' z n : Nat} {E : TypeId} {v : Value} {xs : List Value} (h : w.ownsRow base E z v n xs) (hb : base' ≤ base) : w.ownsRow base' E z v n xs := by
  obtain ⟨h1, h2⟩ := h
  refine ⟨h1, ?_⟩
  rcases h2 with h2 | ⟨gg, cap, cur, hv, hg, r⟩
  · exact Or.inl h2
  · exact Or.inr ⟨gg, cap, cur, hv, by omega, r⟩
theorem okS_val {c : UInt8} (h : okS c = true) (hb : isBl c.toNat = false) : 33 ≤ c.toNat ∧ c.toNat ≤ 126 := by
  rw [okS_iff, blk_iff] at h
  have hb' : (decide (c.toNat = 32) || decide (c.toNat = 9) || decide (c.toNat = 13)) = false := hb
  rw [hb', Bool.false_or] at h
  simpa using h
theorem not_okS {c : UInt8} (h : okS c = false) : isBl c.toNat = false ∧ (c.toNat < 33 ∨ 126 < c.toNat) ∧ c.toNat ≠ 32 := by
  rw [okS_iff, blk_iff] at h
  simp only [Bool.or_eq_false_iff, decide_eq_false_iff_not, Bool.and_eq_false_iff, Nat.not_le] at h
  refine ⟨?_, h.2, h.1.1.1⟩
  unfold isBl
  simp [h.1.1.1, h.1.1.2, h.1.2]
set_option maxHeartbeats 4000000 in
set_option maxRecDepth 100000 in
theorem split_any (s : ByteArray) (hs : s.size ≤ 4294967296) (w : World) : Calls Try.prog 22 #[.string s] w (SplitP w s.data.toList) := by
  have htk := takeWhile_cut s.data.toList
  obtain ⟨L, hL⟩ : ∃ L, nb s.data.toList = L := ⟨_, rfl⟩
  have hle : L.length ≤ s.size := by
    rw [← hL]
    exact (List.takeWhile_sublist _).length_le
  unfold SplitP
  have hcut := cut_any s 35 hs
  rw [hL] at htk ⊢
  rw [htk] at hcut
  obtain ⟨T, hT⟩ : ∃ T : ByteArray, T = ⟨L.toArray⟩ := ⟨_, rfl⟩
  have hTl : T.data.toList = L := by subst hT; rfl
  have hTs : T.size = L.length := by subst hT; exact List.size_toArray
  rw [← hT] at hcut
  clear hT
  generalize (Lib.cut s.data.toList [35]).2.1 = cr at hcut
  generalize (Lib.cut s.data.toList [35]).2.2 = cb at hcut
  have hfl := fun hok W => fields_any T hok (by omega) W
  rw [hTl] at hfl
  clear hL htk
  go_enter Try.func22, Try.ntmps22
  go_wp2_with (go_at_call 35; refine (hcut _).mono ?_; rintro e w' ⟨rfl, n, rfl⟩)
  go_loopw [] (fun wr => ∃ (pos : Nat), wr.heap[w.heap.size]? = some (.stringIter T pos) ∧ Below w.heap.size w wr ∧ pos ≤ T.size ∧ (∀ j x, j < pos → L[j]? = some x → okS x = true)) (fun wr => T.size - wr.iterPos w.heap.size)
  case atStart =>
    refine ⟨0, ?_, (bdn (Below.refl _ w) n).alloc (Nat.le_refl _) _, Nat.zero_le _, fun j x h => by omega⟩
    exact World.iter_heap (w.drewN n) T 0
  case round =>
    obtain ⟨pos, hit, hbw, hple, hpre⟩ := hrel
    have hsz : w.heap.size < wr.heap.size := (Array.getElem?_eq_some_iff.1 hit).1
    by_cases hp : pos < T.size
    · have hnx : ∀ ty, (Instr.next (.pointer (some ⟨w.heap.size, 0, none⟩)) true ty).run Try.prog wr = _ := fun ty => Lib.run_next_any_at wr w.heap.size T pos ty hit hp
      have hit2 := Lib.iterAt_heap wr w.heap.size T pos (pos + (Utf8.decode T pos).2) hit
      have hbw2 := Lib.below_iterAt hbw (k := w.heap.size) (by omega) T (pos + (Utf8.decode T pos).2)
      have hgl : pos < L.length := by omega
      have hLb : L[pos]? = some (T[pos]'hp) := by
        rw [← hTl, List.getElem?_eq_getElem (by rw [hTl]; exact hgl)]
        simp [ByteArray.getElem_eq_getElem_data]
      obtain ⟨c, hc⟩ : ∃ c, T[pos]'hp = c := ⟨_, rfl⟩
      rw [hc] at hLb
      cases hok : okS c
      · -- the first sign that may not be
        have hall : L.all okS = false := by
          rw [List.all_eq_false]
          exact ⟨c, List.mem_of_getElem? hLb, by rw [hok]; decide⟩
        obtain ⟨hnb, hrng, hn32⟩ := not_okS hok
        obtain ⟨r, hr, hrr⟩ : ∃ r : Nat, (Utf8.decode T pos).1 = r ∧ isBl r = false ∧ (r < 32 ∨ 126 < r) := by
          by_cases ha : c.toNat < 128
          · refine ⟨c.toNat, ?_, hnb, by omega⟩
            rw [decode_ascii T pos hp (by rw [hc]; exact ha), hc]
          · have := (decode_high T pos hp (by rw [hc]; omega)).1
            refine ⟨_, rfl, ?_, by omega⟩
            have h1 : ¬ (Utf8.decode T pos).1 = 32 := by omega
            have h2 : ¬ (Utf8.decode T pos).1 = 9 := by omega
            have h3 : ¬ (Utf8.decode T pos).1 = 13 := by omega
            unfold isBl
            simp [h1, h2, h3]
        obtain ⟨hrb, hrr⟩ := hrr
        have hHB := Lib.hid hbw2
        have hHA := Lib.hid hall
        rw [hr] at hnx
        generalize (wr.iterAt w.heap.size T (pos + (Utf8.decode T pos).2)) = W2 at *
        clear hfl hit2 hbw2 hall hrng hok hnb
        rcases hrr with hrr | hrr
        · have i1 : (r : Int) < 32 := by omega
          go_wp2_with (go_at_call 36; refine (blank_any _ _).mono ?_; rintro e w' ⟨rfl, rfl⟩; rw [hrb])
          go_ret2
          exact ⟨.inr ⟨hHA.out, rfl⟩, hHB.out⟩
        · have i1 : ¬ (r : Int) < 32 := by omega
          have i2 : (126 : Int) < (r : Int) := by omega
          go_wp2_with (go_at_call 36; refine (blank_any _ _).mono ?_; rintro e w' ⟨rfl, rfl⟩; rw [hrb])
          go_ret2
          exact ⟨.inr ⟨hHA.out, rfl⟩, hHB.out⟩
      · have hdec := decode_ascii T pos hp (by rw [hc]; exact okS_lt hok)
        rw [hc] at hdec
        rw [hdec] at hnx hit2 hbw2
        dsimp only at hnx hit2 hbw2
        have hHP : Hid (∀ j x, j < pos + 1 → L[j]? = some x → okS x = true) := Lib.hid (fun j x hj hx => by
          by_cases e : j = pos
          · subst e; rw [hLb] at hx; injection hx with hx; rw [← hx]; exact hok
          · exact hpre j x (by omega) hx)
        have hHI := Lib.hid (And.intro hit2 hbw2)
        have hHit := Lib.hid hit
        generalize (wr.iterAt w.heap.size T (pos + 1)) = W2 at *
        obtain ⟨r, hr⟩ : ∃ r : Nat, c.toNat = r := ⟨_, rfl⟩
        have hval := okS_val (c := c) hok
        rw [hr] at hnx hval
        clear hfl hit2 hbw2 hok hpre hLb
        cases hrb : isBl r
        · obtain ⟨v1, v2⟩ := hval hrb
          have i1 : ¬ (r : Int) < 32 := by omega
          have i2 : ¬ (126 : Int) < (r : Int) := by omega
          go_wp2_with (go_at_call 36; refine (blank_any _ _).mono ?_; rintro e w' ⟨rfl, rfl⟩; rw [hrb])
          go_roundw
          case rel => exact ⟨pos + 1, hHI.out.1, hHI.out.2, hp, hHP.out⟩
          case measure => simp only [World.iterPos, hHI.out.1, hHit.out]; omega
        · go_wp2_with (go_at_call 36; refine (blank_any _ _).mono ?_; rintro e w' ⟨rfl, rfl⟩; rw [hrb])
          go_roundw
          case rel => exact ⟨pos + 1, hHI.out.1, hHI.out.2, hp, hHP.out⟩
          case measure => simp only [World.iterPos, hHI.out.1, hHit.out]; omega
    · have hnx : ∀ ty, (Instr.next (.pointer (some ⟨w.heap.size, 0, none⟩)) true ty).run Try.prog wr = _ := fun ty => Lib.run_next_end_at wr w.heap.size T pos ty hit hp
      have hall : L.all okS = true := by
        rw [List.all_eq_true]
        intro x hx
        obtain ⟨j, hj⟩ := List.getElem?_of_mem hx
        exact hpre j x (by have := (List.getElem?_eq_some_iff.1 hj).1; omega) hj
      have hfl2 := hfl hall
      have hHA := Lib.hid hall
      clear hfl hpre hall
      go_wp2_with (go_at_call 37; refine (hfl2 _).mono ?_; rintro e W1 ⟨A, rfl, hA, hown, hB1⟩)
      go_ret2
      exact ⟨.inl ⟨hHA.out, A, rfl, by omega, ownsRow_lower hown (by omega)⟩, hbw.trans (hB1.mono (by omega))⟩
end Go.Proofs.Ytieebnninhbdoaa
