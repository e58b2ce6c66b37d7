/-
  lex.Join: each line's words with one blank between, and a line's end.
-/
import Derived.Test.YtieebnninhbdoaaTi
import Derived.Test.YtieebnninhbdoaaShb
import Derived.Shelf.Strings.BuilderK
namespace Go.Proofs.Ytieebnninhbdoaa
open Go.RowKit Go.Shelf

theorem ws_k (B b : Nat) (bs : List Value) (s : ByteArray) (w : World) (h : Lib.IsBuilderF 63 5 B b bs w) (hlen : bs.length + s.size ≤ 140737488355328) (hBw : B ≤ w.heap.size) :
    Calls Try.prog 24 #[.pointer (some ⟨b, 0, none⟩), .string s] w fun e w' => e = .returned (.tuple #[.int .i64 s.size, .nilIface]) ∧ (Lib.BuilderAtF 63 5 B b (.pointer (some ⟨b, 0, none⟩)) (bs ++ Lib.strCells s) w' ∧ Below B w w' ∧ Lib.OthersKept 5 (some b) w w') :=
  Any.Builder_WriteString_k { Try.lays156 with } Try.Builder_Extra_156 B b bs s w h hlen hBw

/-- A line's words with one blank between. -/
def joinW (ws : List (List UInt8)) : List UInt8 := Lib.join ws [32]
/-- Lines put together. -/
def joinF (l : List (List (List UInt8))) : List UInt8 := (l.map fun ws => joinW ws ++ [10]).flatten
theorem joinF_snoc (l : List (List (List UInt8))) (ws : List (List UInt8)) : joinF (l ++ [ws]) = joinF l ++ (joinW ws ++ [10]) := by
  unfold joinF
  rw [List.map_append, List.flatten_append]
  simp
theorem joinF_append (l m : List (List (List UInt8))) : joinF (l ++ m) = joinF l ++ joinF m := by
  unfold joinF
  rw [List.map_append, List.flatten_append]
theorem strCells_data (s : ByteArray) : Lib.strCells s = Lib.byteCells s.data.toList := by
  rfl
theorem bf_below {T e : TypeId} {B b : Nat} {bs : List Value} {W W' : World} (h : Lib.IsBuilderF T e B b bs W) (hb : Below W.heap.size W W') : Lib.IsBuilderF T e B b bs W' := by
  have one : ∀ p, Lib.BuilderAtF T e B b p bs W → Lib.BuilderAtF T e B b p bs W' := fun p h => by
    have hlt := h.lt
    obtain ⟨h1, v, h2, h3, h4⟩ := h
    exact ⟨h1, v, (hb.block b hlt).trans h2, h3.kept (row := none) ⟨hb.os, hb.tape, hb.output, hb.size, fun k hk _ => hb.block k hk⟩ (Classical.em _), h4⟩
  exact h.elim (fun x => .inl (one _ x)) (fun x => .inr (one _ x))
theorem joinw_any (b c : Nat) (ws : List (List UInt8)) (w : World) (h : WR w b ws) (hc : ws.length ≤ c) (hlen : (joinW ws).length ≤ 140737488355328) (hn : ws.length ≤ 140737488355328) :
    Calls Try.prog 25 #[.slice (some ⟨b, 0, none⟩) ws.length c, .string ⟨#[32]⟩] w fun e w' => e = .returned (.string ⟨(joinW ws).toArray⟩) ∧ Below w.heap.size w w' := by
  have hx : (ws.map fun x => (⟨x.toArray⟩ : ByteArray)).map (·.data.toList) = ws := by
    rw [List.map_map]
    exact (List.map_congr_left fun x _ => rfl).trans (List.map_id _)
  have hj := Try.strings_Join b 0 c (ws.map fun x => ⟨x.toArray⟩) ⟨#[32]⟩ w (fun j x hx => by
    rw [List.getElem?_map] at hx
    cases hy : ws[j]? with
    | none => rw [hy] at hx; cases hx
    | some y =>
      rw [hy] at hx
      injection hx with hx
      rw [← hx, Nat.zero_add]
      exact h.cell hy) h.lt (by rw [List.length_map]; exact hn) (by rw [List.length_map]; exact hc) (by rw [hx]; exact hlen)
  rw [hx, List.length_map] at hj
  exact hj
theorem joinF_le (l : List (List (List UInt8))) (k : Nat) : (joinF (l.take k)).length ≤ (joinF l).length := by
  have h := joinF_append (l.take k) (l.drop k)
  rw [List.take_append_drop] at h
  rw [h, List.length_append]
  omega
theorem joinF_snoc_take (ls : List Ln) (k : Nat) (x : Ln) (hx : ls[k]? = some x) : joinF ((ls.map (·.ws)).take (k + 1)) = joinF ((ls.map (·.ws)).take k) ++ (joinW x.ws ++ [10]) := by
  rw [List.take_add_one, List.getElem?_map, hx]
  exact joinF_snoc _ _

set_option maxRecDepth 100000 in
set_option maxHeartbeats 4000000 in
theorem join_any (A : Option Addr) (c : Nat) (ls : List Ln) (w : World) (h1 : Cel w w.heap.size 2 A ls.length c (lcell ls)) (h2 : LR w ls) (hN : (joinF (ls.map (·.ws))).length ≤ 140737488355328) (hws : ∀ x ∈ ls, x.ws.length ≤ 140737488355328) :
    Calls Try.prog 14 #[.slice A ls.length c] w fun e w' => e = .returned (.string ⟨(joinF (ls.map (·.ws))).toArray⟩) ∧ Below w.heap.size w w' := by
  obtain ⟨n, hn⟩ : ∃ n, ls.length = n := ⟨_, rfl⟩
  obtain ⟨hc1, hm1⟩ := h1.le
  unfold maxLen at hm1
  rw [hn] at h1 hc1 ⊢
  have HC := Lib.hid (And.intro h1 (And.intro h2 (And.intro hN hws)))
  have HLN := Lib.hid hn
  clear h1 h2 hN hws hn
  go_enter Try.func14, Try.ntmps14
  go_wp2
  go_loopw [8] (fun i wr => ∃ k : Nat, k ≤ n ∧ i = .int .i64 k ∧ Lib.IsBuilderF 63 5 w.heap.size w.heap.size (Lib.byteCells (joinF ((ls.map (·.ws)).take k))) wr ∧ Below w.heap.size w wr) (fun i _ => n - (intOf i).toNat)
  case atStart => exact ⟨0, Nat.zero_le _, rfl, Lib.IsBuilderF.of (Lib.fresh_isBuilder 63 5 w), (Below.refl _ w).alloc (Nat.le_refl _) _⟩
  case round =>
    obtain ⟨k, hk, rfl, hI, hbw⟩ := hrel
    obtain ⟨h1, h2, hN, hws⟩ := HC.out
    by_cases hlt : k < n
    · obtain ⟨x, hx⟩ : ∃ x, ls[k]? = some x := ⟨_, List.getElem?_eq_getElem (by have := HLN.out; omega)⟩
      obtain ⟨b1, o1, rfl, hb1, hcc⟩ := h1.at_ (by omega)
      obtain ⟨hne, hcap, hwr⟩ := h2 x (List.mem_of_getElem? hx)
      have v1 : wr.cell? ⟨b1, o1 + k * 2, none⟩ = some (.int .i64 (x.num : Nat)) := by
        have := (hbw.cell (p := ⟨b1, o1 + k * 2, none⟩) hb1).trans (hcc (k * 2) (by omega))
        unfold lcell at this
        rw [show k * 2 / 2 = k by omega, hx, show k * 2 % 2 = 0 by omega] at this
        exact this
      have v2 : wr.cell? ⟨b1, o1 + k * 2 + 1, none⟩ = some (.slice (some ⟨x.b, 0, none⟩) x.ws.length x.cap) := by
        have := (hbw.cell (p := ⟨b1, o1 + (k * 2 + 1), none⟩) hb1).trans (hcc (k * 2 + 1) (by omega))
        unfold lcell at this
        rw [show (k * 2 + 1) / 2 = k by omega, hx, show (k * 2 + 1) % 2 = 1 by omega] at this
        exact this
      have hst := joinF_snoc_take ls k x hx
      have hle := joinF_le (ls.map (·.ws)) (k + 1)
      rw [hst] at hle
      simp only [List.length_append, List.length_cons, List.length_nil] at hle
      have hjl : (joinW x.ws).length ≤ 140737488355328 := by omega
      have hwl := hws x (List.mem_of_getElem? hx)
      have HJ : Hid (∀ Z, WR Z x.b x.ws → Calls Try.prog 25 #[.slice (some ⟨x.b, 0, none⟩) x.ws.length x.cap, .string ⟨#[32]⟩] Z fun e w' => e = .returned (.string ⟨(joinW x.ws).toArray⟩) ∧ Below Z.heap.size Z w') := Lib.hid fun Z hZ => joinw_any x.b x.cap x.ws Z hZ hcap hjl hwl
      have hwr1 : WR (wr.alloc (.cells #[.int .i64 (x.num : Nat), .slice (some ⟨x.b, 0, none⟩) x.ws.length x.cap] 35)) x.b x.ws := (hwr.below hbw hwr.lt).of_block (Below.heap_alloc _ _ _ (Nat.lt_of_lt_of_le hwr.lt hbw.size))
      have HST := Lib.hid hst
      have HI := Lib.hid hI
      have HBW := Lib.hid hbw
      generalize hJ : joinF ((ls.map (·.ws)).take k) = J at *
      generalize joinW x.ws = jw at *
      have i1 : (0 : Int) ≤ (k : Int) := by omega
      have i2 : (k : Int) < (n : Int) := by omega
      have i3 : IntKind.i64.wrap ((k : Int) + 1) = (k : Int) + 1 := IntWalk.i64_in _ (by omega)
      clear h1 h2 hN hws hcc hst hI hbw hJ hwr hne
      have hsz := HBW.out.size
      have hNb := HC.out.2.2.1
      go_wp2_with (go_at_call 25; refine (HJ.out _ hwr1).mono ?_; rintro e w4 ⟨rfl, hB4⟩)
      have I4 := bf_below (HI.out.alloc (.cells #[.int .i64 (x.num : Nat), .slice (some ⟨x.b, 0, none⟩) x.ws.length x.cap] 35)) hB4
      have b4 : Below w.heap.size w w4 := (HBW.out.alloc hsz _).trans (hB4.mono (by simp; omega))
      refine (ws_k w.heap.size w.heap.size _ ⟨jw.toArray⟩ w4 I4 (by rw [Lib.byteCells_length]; show J.length + jw.toArray.size ≤ _; rw [List.size_toArray]; omega) b4.size).mono ?_
      rintro e w5 ⟨rfl, hA5, hB5, _⟩
      have I5 : Lib.IsBuilderF 63 5 w.heap.size w.heap.size (Lib.byteCells (J ++ jw)) w5 := by
        rw [Lib.byteCells_append]
        exact Or.inr hA5
      have b5 := b4.trans hB5
      clear hA5 I4
      go_wp2_with fail
      refine (ws_k w.heap.size w.heap.size _ ⟨#[10]⟩ w5 I5 (by rw [Lib.byteCells_length, List.length_append]; show _ + 1 ≤ _; omega) b5.size).mono ?_
      rintro e w6 ⟨rfl, hA6, hB6, _⟩
      have I6 : Lib.IsBuilderF 63 5 w.heap.size w.heap.size (Lib.byteCells (J ++ (jw ++ [10]))) w6 := by
        rw [← List.append_assoc, Lib.byteCells_append]
        exact Or.inr hA6
      rw [← HST.out] at I6
      have b6 := b5.trans hB6
      have HI6 := Lib.hid (And.intro I6 b6)
      clear I6 b6 hA6
      go_wp2
      exact ⟨⟨k + 1, hlt, by go_num, HI6.out.1, HI6.out.2⟩, by simp [intOf]; omega⟩
    · obtain rfl : k = n := by omega
      have i2 : ¬ (k : Int) < (k : Int) := by omega
      have HT : Hid ((ls.map (·.ws)).take k = ls.map (·.ws)) := Lib.hid (List.take_of_length_le (by rw [List.length_map, HLN.out]; exact Nat.le_refl _))
      rw [HT.out] at hI
      have HI := Lib.hid hI
      have HBW := Lib.hid hbw
      clear h1 h2 hN hws hI hbw
      go_wp2_with (go_at_call 26; refine (Try.Builder_String_any_k w.heap.size w.heap.size _ _ HI.out HBW.out.size).mono ?_; rintro e w3 ⟨rfl, _, hB3, _⟩)
      go_ret
      exact ⟨rfl, HBW.out.trans hB3⟩
end Go.Proofs.Ytieebnninhbdoaa
