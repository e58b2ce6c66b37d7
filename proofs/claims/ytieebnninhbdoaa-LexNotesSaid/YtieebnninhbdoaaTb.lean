/-
  The contracts of strings.Cut at one byte, lex.isBlank, lex.split.
-/
import Derived.Test.YtieebnninhbdoaaTa
import Derived.Test.YtieebnninhbdoaaRw
import Derived.Test.YtieebnninhbdoaaShelf
import Derived.Lib.OthersKept
import Derived.Deep.Draws
namespace Go.Proofs.Ytieebnninhbdoaa
open Go.RowKit Go.Shelf

theorem index1 (s : ByteArray) (c : UInt8) : Lib.indexB s ⟨#[c]⟩ = Lib.indexByte s.data.toList c := Lib.index_one _ _
set_option maxHeartbeats 2000000 in
set_option maxRecDepth 100000 in
theorem slcut_one (s : ByteArray) (c : UInt8) (hs : s.size ≤ 4294967296) (w : World) :
    Calls Try.prog 46 #[.string s, .string ⟨#[c]⟩] w fun e w' => e = .returned (.tuple #[.string ⟨(Lib.cut s.data.toList [c]).1.toArray⟩, .string ⟨(Lib.cut s.data.toList [c]).2.1.toArray⟩, .bool (Lib.cut s.data.toList [c]).2.2]) ∧ ∃ n, w' = w.drewN n := by
  rcases Lib.indexB_cases s ⟨#[c]⟩ with hix | ⟨i, hix, hroom⟩
  · obtain ⟨e1, e2, e3⟩ := Lib.cutB_miss s ⟨#[c]⟩ hix
    have e1' : (⟨(Lib.cut s.data.toList [c]).1.toArray⟩ : ByteArray) = _ := e1
    have e2' : (⟨(Lib.cut s.data.toList [c]).2.1.toArray⟩ : ByteArray) = _ := e2
    have e3' : (Lib.cut s.data.toList [c]).2.2 = _ := e3
    rw [e1', e2', e3']
    rw [index1] at hix
    go_enter Try.func46, Try.ntmps46
    go_wp2_with (go_at_call 50; refine (Try.stringslite_Index_one _ _ _).mono ?_; rintro e w' ⟨rfl, rfl⟩; rw [hix])
    go_ret3
    exact ⟨rfl, 0, rfl⟩
  · obtain ⟨e1, e2, e3⟩ := Lib.cutB_hit s ⟨#[c]⟩ i hix
    have e1' : (⟨(Lib.cut s.data.toList [c]).1.toArray⟩ : ByteArray) = _ := e1
    have e2' : (⟨(Lib.cut s.data.toList [c]).2.1.toArray⟩ : ByteArray) = _ := e2
    have e3' : (Lib.cut s.data.toList [c]).2.2 = _ := e3
    rw [e1', e2', e3']
    rw [index1] at hix
    have h1 : (⟨#[c]⟩ : ByteArray).size = 1 := rfl
    rw [h1] at hroom ⊢
    have c1 : (0 : Int) ≤ ↑i := by omega
    have c2 : (↑i : Int) ≤ ↑s.size := by omega
    have c3 : (0 : Int) ≤ ↑i + 1 := by omega
    have c4 : (↑i + 1 : Int) ≤ ↑s.size := by omega
    have hmx : Try.prog.follows .mixedOrders = true := by kernel_rfl
    have c5 : IntKind.i64.wrap ((i : Int) + 1) = i + 1 := IntWalk.i64_in _ (by omega)
    go_enter Try.func46, Try.ntmps46
    go_wp2_with (go_at_call 50; refine (Try.stringslite_Index_one _ _ _).mono ?_; rintro e w' ⟨rfl, rfl⟩; rw [hix])
    go_region_o
    go_wp2
    go_ret3
    exact ⟨rfl, 1, rfl⟩
set_option maxHeartbeats 1000000 in
theorem cut_any (s : ByteArray) (c : UInt8) (hs : s.size ≤ 4294967296) (w : World) :
    Calls Try.prog 35 #[.string s, .string ⟨#[c]⟩] w fun e w' => e = .returned (.tuple #[.string ⟨(Lib.cut s.data.toList [c]).1.toArray⟩, .string ⟨(Lib.cut s.data.toList [c]).2.1.toArray⟩, .bool (Lib.cut s.data.toList [c]).2.2]) ∧ ∃ n, w' = w.drewN n := by
  go_enter Try.func35, Try.ntmps35
  go_wp2_with (go_at_call 46; refine (slcut_one _ _ hs _).mono ?_; rintro e w' ⟨rfl, n, rfl⟩)
  go_ret3
  exact ⟨rfl, n, rfl⟩

set_option maxHeartbeats 1000000 in
theorem blank_any (r : Nat) (w : World) : Calls Try.prog 36 #[.int .i32 r] w fun e w' => e = .returned (.bool (isBl r)) ∧ w' = w := by
  unfold isBl
  go_enter Try.func36, Try.ntmps36
  by_cases h0 : r = 32
  · subst h0
    go_wp2
    go_ret
    exact ⟨rfl, rfl⟩
  · by_cases h1 : r = 9
    · subst h1
      go_wp2
      go_ret
      exact ⟨rfl, rfl⟩
    · by_cases h2 : r = 13
      · subst h2
        go_wp2
        go_ret
        exact ⟨rfl, rfl⟩
      · have d0 : ((r : Int) == 32) = false := beq_eq_false_iff_ne.2 (by omega)
        have d1 : ((r : Int) == 9) = false := beq_eq_false_iff_ne.2 (by omega)
        have d2 : ((r : Int) == 13) = false := beq_eq_false_iff_ne.2 (by omega)
        go_wp2
        go_ret
        exact ⟨by simp [h0, h1, h2], rfl⟩
theorem pred_blank (w : World) : PredAt Try.prog 36 #[] encR isBl w := fun W r _ => (blank_any r W).mono fun _ _ ⟨h1, h2⟩ => ⟨h1, 0, h2⟩
theorem fields_any (s : ByteArray) (hok : s.data.toList.all okS = true) (hs : s.size ≤ 4294967296) (w : World) :
    Calls Try.prog 37 #[.string s, .func (.func 36) #[] #[]] w fun e w' => ∃ A, e = .returned (.slice (some ⟨A, 0, none⟩) (wds s.data.toList).length (wds s.data.toList).length) ∧ w.heap.size ≤ A ∧
      w'.ownsRow w.heap.size 9 1 (.slice (some ⟨A, 0, none⟩) (wds s.data.toList).length (wds s.data.toList).length) (wds s.data.toList).length ((wds s.data.toList).map fun x => Value.string ⟨x.toArray⟩) ∧ Below w.heap.size w w' := by
  have h := Try.strings_FieldsFunc 36 #[] (enters_of Try.func36 (by kernel_rfl) rfl) isBl s w hs (pred_blank w)
  rw [fields_wd s hok, List.length_map, List.map_map] at h
  exact h
end Go.Proofs.Ytieebnninhbdoaa
