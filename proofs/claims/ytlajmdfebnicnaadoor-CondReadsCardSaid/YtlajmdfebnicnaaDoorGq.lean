/-
  internal/strconv.formatBits and FormatUint at base 16.
-/
import Derived.Test.YtlajmdfebnicnaaDoorGp
import Derived.Lib.ItoaMem
namespace Go.Proofs.YtlajmdfebnicnaaDoor
open Go.RowKit
set_option linter.unusedVariables false

abbrev z65 : Array Value := #[.int .u8 0, .int .u8 0, .int .u8 0, .int .u8 0, .int .u8 0, .int .u8 0, .int .u8 0, .int .u8 0, .int .u8 0, .int .u8 0, .int .u8 0, .int .u8 0, .int .u8 0, .int .u8 0, .int .u8 0, .int .u8 0, .int .u8 0, .int .u8 0, .int .u8 0, .int .u8 0, .int .u8 0, .int .u8 0, .int .u8 0, .int .u8 0, .int .u8 0, .int .u8 0, .int .u8 0, .int .u8 0, .int .u8 0, .int .u8 0, .int .u8 0, .int .u8 0, .int .u8 0, .int .u8 0, .int .u8 0, .int .u8 0, .int .u8 0, .int .u8 0, .int .u8 0, .int .u8 0, .int .u8 0, .int .u8 0, .int .u8 0, .int .u8 0, .int .u8 0, .int .u8 0, .int .u8 0, .int .u8 0, .int .u8 0, .int .u8 0, .int .u8 0, .int .u8 0, .int .u8 0, .int .u8 0, .int .u8 0, .int .u8 0, .int .u8 0, .int .u8 0, .int .u8 0, .int .u8 0, .int .u8 0, .int .u8 0, .int .u8 0, .int .u8 0, .int .u8 0]
theorem sl65 (g p : Nat) (hp : p < 65) (W : World) : (Instr.sliceAt 96 (.pointer (some ⟨g, 0, none⟩)) (some (.int .i64 (p : Int))) none none).run Tryd.prog W = .ok (.slice (some ⟨g, p, none⟩) (65 - p) (65 - p)) W := by
  have hl : Tryd.prog.arrayLen 96 = 65 := by kernel_rfl
  have hz : (sizeOf (Tryd.prog.elem 96)).run Tryd.prog W = .ok 1 W := by kernel_rfl
  rw [run_sliceAt_array_l W 96 _ (by kernel_rfl) .i64 (p : Int) (by omega) (by rw [hl]; omega), hz, hl]
  have h1 : ¬ 65 = p := by omega
  simp [Result.andThen, slicedAt, h1, Go.WideShapes.add_plain]
/-- What the loop has done: L is written at the array's end, u is left. -/
structure FB (w : World) (U u i : Nat) (L : List UInt8) (D : Array Value) (wr : World) : Prop where
  lt : u < 18446744073709551616
  is : hexL U = hexL u ++ L
  len : i + L.length = 65
  row : RowC wr w.heap.size D 96
  size : D.size = 65
  cell : ∀ j (hj : j < L.length), D[i + j]? = some (.int .u8 (L[j].toNat))
  left : Below w.heap.size w wr
theorem FB.short {w : World} {U u i : Nat} {L : List UInt8} {D : Array Value} {wr : World} (h : FB w U u i L D wr) (hU : U < 18446744073709551616) : 50 ≤ i := by
  have h1 := hexL_len 15 U (by omega)
  have h2 := hexL_pos u
  rw [h.is, List.length_append] at h1
  have := h.len
  omega
/-- A figure more. -/
theorem FB.put {w : World} {U u k : Nat} {L : List UInt8} {D : Array Value} {wr : World} (h : FB w U u (k + 1) L D wr) {d u' : Nat} (hlt : u' < 18446744073709551616) (hd : hexL u = hexL u' ++ [hexC d]) :
    FB w U u' k (hexC d :: L) (D.setIfInBounds k (.int .u8 ((hexC d).toNat : Int))) (wr.setCell ⟨w.heap.size, k, none⟩ (.int .u8 ((hexC d).toNat : Int))) := by
  have hl := h.len
  refine ⟨hlt, by rw [h.is, hd, List.append_assoc]; rfl, by simp; omega, h.row.set _ _, by simpa using h.size, ?_, h.left.setCell (p := ⟨_, _, none⟩) (Nat.le_refl _) _⟩
  intro j hj
  cases j with
  | zero => rw [Nat.add_zero, Array.getElem?_setIfInBounds_self_of_lt (by rw [h.size]; omega)]; rfl
  | succ j =>
    rw [Array.getElem?_setIfInBounds_ne (by omega), show k + (j + 1) = k + 1 + j from by omega]
    exact h.cell j (by simpa using hj)
theorem figGet (d : Nat) (hd : d < 16) (h : d < figS.size) : figS[d] = hexC d := by
  have h : d = 0 ∨ d = 1 ∨ d = 2 ∨ d = 3 ∨ d = 4 ∨ d = 5 ∨ d = 6 ∨ d = 7 ∨ d = 8 ∨ d = 9 ∨ d = 10 ∨ d = 11 ∨ d = 12 ∨ d = 13 ∨ d = 14 ∨ d = 15 := by omega
  rcases h with rfl | rfl | rfl | rfl | rfl | rfl | rfl | rfl | rfl | rfl | rfl | rfl | rfl | rfl | rfl | rfl <;> rfl
set_option maxRecDepth 100000 in
set_option maxHeartbeats 4000000 in
theorem fbits_any (U : Nat) (hU : U < 18446744073709551616) (w : World) (h : Tz w) :
    Calls Tryd.prog 51 #[.slice none 0 0, .int .u64 U, .int .i64 16, .bool false, .bool false] w fun e w' => e = .returned (.tuple #[.slice none 0 0, .string (hexT U)]) ∧ Below w.heap.size w w' := by
  have HT : Hid (Tz (w.alloc (.cells z65 96))) := Lib.hid (Lib.tabIs_alloc h _)
  have hF : FB w U U 65 [] z65 (w.alloc (.cells z65 96)) := ⟨hU, by simp, rfl, RowC.new _ _ _ _ rfl, rfl, fun j hj => absurd hj (Nat.not_lt_zero _), (Below.refl _ _).alloc (Nat.le_refl _) _⟩
  have HF := Lib.hid hF
  have HU := Lib.hid hU
  clear h hF hU
  go_enter Tryd.func51, Tryd.ntmps51
  go_wp2_with (first
    | (go_at_call 63; refine (pow2_16 _).mono ?_; rintro e w1 ⟨rfl, rfl⟩)
    | (go_at_call 64; refine (tz_16 _ HT.out).mono ?_; rintro e w1 ⟨rfl, rfl⟩))
  go_loopw [1, 13] (fun vu vi wr => ∃ (u i : Nat) (L : List UInt8) (D : Array Value), vu = .int .u64 u ∧ vi = .int .i64 i ∧ Hid (FB w U u i L D wr)) (fun vu _ _ => (intOf vu).toNat)
  case atStart => exact ⟨U, 65, [], z65, rfl, rfl, HF⟩
  case round =>
    clear HF HT
    obtain ⟨u, i, L, D, rfl, rfl, HF⟩ := hrel
    have hi := HF.out.short HU.out
    have hlen := HF.out.len
    obtain ⟨k, rfl⟩ : ∃ k, i = k + 1 := ⟨i - 1, by omega⟩
    have hu := HF.out.lt
    have hk1 : (k : Int) < 65 := by omega
    have hki : ((k + 1 : Nat) : Int) - 1 = (k : Int) := by omega
    obtain ⟨v, hv⟩ : ∃ v, D[k]? = some v := ⟨_, Array.getElem?_eq_getElem (by rw [HF.out.size]; omega)⟩
    have hc := HF.out.row.cell k v hv
    have hz := HF.out.row.frozen k
    by_cases h16 : 16 ≤ u
    · have hg : (16 : Int) ≤ (u : Int) := by omega
      have ha := u64_and15 u hu
      have hix := ixFig (u % 16) (by omega)
      have hd := hexL_more (u := u) (by omega)
      have HD := Lib.hid hd
      clear hd hv
      go_wp2
      refine ⟨⟨u / 16, k, hexC (u % 16) :: L, D.setIfInBounds k (.int .u8 ((hexC (u % 16)).toNat : Int)), by go_num, rfl, Lib.hid ?_⟩, by simp [intOf]; omega⟩
      rw [figGet _ (by omega)]
      exact HF.out.put (by omega) HD.out
    · have hg : ¬ (16 : Int) ≤ (u : Int) := by omega
      have hix := ixFig u (by omega)
      have hd := hexL_small (u := u) (by omega)
      have hsl := sl65 w.heap.size k (by omega)
      have hcv : (convert 74 9 (.slice (some ⟨w.heap.size, k, none⟩) (65 - k) (65 - k))).run Tryd.prog (wr.setCell ⟨w.heap.size, k, none⟩ (.int .u8 ((hexC u).toNat : Int))) = .ok (.string (hexT U)) (wr.setCell ⟨w.heap.size, k, none⟩ (.int .u8 ((hexC u).toNat : Int))) := by
        have hl : hexL U = hexC u :: L := by rw [HF.out.is, hd]; rfl
        have e65 : (hexC u :: L).length = 65 - k := by simp; omega
        have hr := HF.out.row.set k (.int .u8 ((hexC u).toNat : Int))
        have := run_convert_bytes_back (P := Tryd.prog) (wr.setCell ⟨w.heap.size, k, none⟩ (.int .u8 ((hexC u).toNat : Int))) 74 9 5 ⟨w.heap.size, k, none⟩ (65 - k) (hexC u :: L) Tryd.underlying74 Tryd.underlying5 Tryd.underlying9 (fun j hj => by
          rw [Go.WideShapes.add_plain]
          refine hr.cell (k + j) _ ?_
          cases j with
          | zero => rw [Nat.add_zero, Array.getElem?_setIfInBounds_self_of_lt (by rw [HF.out.size]; omega)]; rfl
          | succ j =>
            rw [Array.getElem?_setIfInBounds_ne (by omega), show k + (j + 1) = k + 1 + j from by omega]
            exact HF.out.cell j (by simpa using hj))
        rw [e65, ← hl] at this
        exact this
      clear hv hd
      go_wp2
      go_ret2
      exact ⟨rfl, HF.out.left.setCell (p := ⟨_, _, none⟩) (Nat.le_refl _) _⟩
set_option maxHeartbeats 1000000 in
theorem ifmt16_any (U : Nat) (hU : U < 18446744073709551616) (w : World) (h : Tz w) :
    Calls Tryd.prog 25 #[.int .u64 U, .int .i64 16] w fun e w' => e = .returned (.string (hexT U)) ∧ Below w.heap.size w w' := by
  have HF := Lib.hid (fbits_any U hU w h)
  clear h
  go_enter Tryd.func25, Tryd.ntmps25
  go_wp2_with (go_at_call 51; refine HF.out.mono ?_; rintro e w1 ⟨rfl, hB1⟩)
  go_ret
  exact ⟨rfl, hB1⟩
set_option maxHeartbeats 1000000 in
theorem fmt16_any (U : Nat) (hU : U < 18446744073709551616) (w : World) (h : Tz w) :
    Calls Tryd.prog 17 #[.int .u64 U, .int .i64 16] w fun e w' => e = .returned (.string (hexT U)) ∧ Below w.heap.size w w' := by
  have HF := Lib.hid (ifmt16_any U hU w h)
  clear h
  go_enter Tryd.func17, Tryd.ntmps17
  go_wp2_with (go_at_call 25; refine HF.out.mono ?_; rintro e w1 ⟨rfl, hB1⟩)
  go_ret
  exact ⟨rfl, hB1⟩
end Go.Proofs.YtlajmdfebnicnaaDoor
