/-
  Layer 21: the chapter's example, as the law's own check of it.
-/
import Derived.Test.YtiofgaadfbjnoaaAs12
namespace Go.Proofs.Ytiofgaadfbjnoaa
open Go.RowKit Go.Shelf
set_option linter.unusedVariables false

def l4 : List IT := [⟨0, 0x15, 5, 1, 0⟩, ⟨0, 6, 1, 0, 0⟩, ⟨1, 0, 0, 0, 0⟩, ⟨0, 6, 2, 0, 0⟩]
theorem l4_prog : progI l4 = [⟨0x15, 1, 0, 5⟩, ⟨6, 0, 0, 1⟩, ⟨6, 0, 0, 2⟩] := by kernel_rfl
theorem l4_check : (checkF (fun i => ([⟨0x15, 1, 0, 5⟩, ⟨6, 0, 0, 1⟩, ⟨6, 0, 0, 2⟩] : List IV)[i]!) 3).2 = 0 := by kernel_rfl
theorem l4_formed : FormedI l4 := by
  refine ⟨fun i hi => ?_, fun i hi => ?_, by decide, .inl (by kernel_rfl)⟩
  · have hi' : i < 4 := hi
    match i, hi' with
    | 0, _ => exact fun h => absurd rfl h
    | 1, _ => exact fun h => absurd rfl h
    | 2, _ => exact fun _ => ⟨fun j hj => by
        match j, hj with
        | 0, _ => decide
        | 1, _ => decide, by decide, rfl, rfl, rfl, rfl⟩
    | 3, _ => exact fun h => absurd rfl h
  · have hi' : i < 4 := hi
    match i, hi' with
    | 0, _ => exact ⟨by kernel_rfl, by kernel_rfl, .inr ⟨2, by decide, by decide, rfl⟩, .inl rfl⟩
    | 1, _ => exact ⟨by kernel_rfl, by kernel_rfl, .inl rfl, .inl rfl⟩
    | 2, _ => exact ⟨by kernel_rfl, by kernel_rfl, .inl rfl, .inl rfl⟩
    | 3, _ => exact ⟨by kernel_rfl, by kernel_rfl, .inl rfl, .inl rfl⟩
theorem l4_ok : ∀ x ∈ l4, x.ok := by
  intro x hx
  simp only [l4, List.mem_cons, List.not_mem_nil, or_false] at hx
  rcases hx with rfl | rfl | rfl | rfl <;> exact ⟨by decide, by decide, by decide, by decide, by decide⟩
abbrev l4cells : Array Value := #[.int .i64 0, .int .u16 21, .int .u32 5, .int .i64 1, .int .i64 0, .int .i64 0, .int .u16 6, .int .u32 1, .int .i64 0, .int .i64 0, .int .i64 1, .int .u16 0, .int .u32 0, .int .i64 0, .int .i64 0, .int .i64 0, .int .u16 6, .int .u32 2, .int .i64 0, .int .i64 0]
theorem l4_cel (w : World) (E : TypeId) : Cel (w.alloc (.cells l4cells E)) (w.heap.size + 1) 5 (some ⟨w.heap.size, 0, none⟩) 4 4 (itcell fun i => l4[i]!) :=
  Cel.mk_ (Nat.lt_succ_self _) (Nat.le_refl _) (by decide) fun i hi => by
    have hi' : i < 20 := by omega
    rw [Nat.zero_add, cell_of_row _ _ _ _ _ _ (heap_alloc_last w _)]
    match i, hi' with
    | 0, _ | 1, _ | 2, _ | 3, _ | 4, _ | 5, _ | 6, _ | 7, _ | 8, _ | 9, _ | 10, _ | 11, _ | 12, _ | 13, _ | 14, _ | 15, _ | 16, _ | 17, _ | 18, _ | 19, _ => rfl
    | i + 20, h => omega
theorem at_ins {w : World} {base n c : Nat} {A : Option Addr} {L : List IV} (h : OwnC w base 52 4 A n c (icell fun i => L[i]!)) (k : Nat) (hk : k < n) : ∃ b, A = some ⟨b, 0, none⟩ ∧ n ≤ c ∧ w.cell? ⟨b, k * 4, none⟩ = some (.int .u16 (L[k]!).c) ∧ w.cell? ⟨b, k * 4 + 1, none⟩ = some (.int .u8 (L[k]!).t) ∧ w.cell? ⟨b, k * 4 + 2, none⟩ = some (.int .u8 (L[k]!).f) ∧ w.cell? ⟨b, k * 4 + 3, none⟩ = some (.int .u32 (L[k]!).k) := by
  have hcel := h.cel
  have hle := hcel.le
  rcases h.2 with ⟨_, h0⟩ | ⟨g, cap, cs, e, _⟩
  · omega
  · injection e with e1 e2 e3
    subst e1
    obtain ⟨b, off, he, _, hc⟩ := hcel.at_ (by omega)
    injection he with he
    injection he with he1 he2
    subst he1 he2
    have hj : ∀ j, j < 4 → w.cell? ⟨g, k * 4 + j, none⟩ = some (icell (fun i => L[i]!) (k * 4 + j)) := fun j hj => by
      have := hc (k * 4 + j) (by omega)
      rwa [Nat.zero_add] at this
    refine ⟨g, rfl, hle.1, ?_, ?_, ?_, ?_⟩
    · have := hj 0 (by decide); rw [Nat.add_zero, icell0] at this; exact this
    · rw [hj 1 (by decide), icell1]
    · rw [hj 2 (by decide), icell2]
    · rw [hj 3 (by decide), icell3]
set_option maxHeartbeats 4000000 in
theorem awake21_any (w : World) : Calls Try.prog 12 #[] w fun e w' => e = .returned (.bool true) ∧ Below w.heap.size w w' := by
  obtain ⟨W1, hW1⟩ : ∃ W, w.alloc (.cells l4cells 27) = W := ⟨_, rfl⟩
  have HW1 := Lib.hid hW1
  have HB1 : Hid (Below w.heap.size w W1) := Lib.hid (by rw [← hW1]; exact (Below.refl _ _).alloc (Nat.le_refl _) _)
  have HA : Hid (∀ b, w.heap.size = b → Calls Try.prog 8 #[.slice (some ⟨b, 0, none⟩) 4 4] W1 fun e w' => ∃ b c', e = .returned (.tuple #[.slice (some ⟨b, 0, none⟩) 3 c', .int .i64 0]) ∧ Below W1.heap.size W1 w' ∧ 3 ≤ c' ∧
      w'.cell? ⟨b, 0, none⟩ = some (.int .u16 21) ∧ w'.cell? ⟨b, 1, none⟩ = some (.int .u8 1) ∧ w'.cell? ⟨b, 2, none⟩ = some (.int .u8 0) ∧ w'.cell? ⟨b, 3, none⟩ = some (.int .u32 5) ∧ w'.cell? ⟨b, 8, none⟩ = some (.int .u16 6) ∧ w'.cell? ⟨b, 9, none⟩ = some (.int .u8 0) ∧ w'.cell? ⟨b, 10, none⟩ = some (.int .u8 0) ∧ w'.cell? ⟨b, 11, none⟩ = some (.int .u32 2)) := Lib.hid fun b hb => by
    subst hb
    have hcel := l4_cel w 27
    rw [hW1, show w.heap.size + 1 = W1.heap.size by rw [← hW1]; simp] at hcel
    refine (assemble_ok _ 4 4 l4 W1 rfl (by decide) hcel l4_ok l4_formed 0 (by rw [l4_prog]; exact l4_check)).mono ?_
    rintro e w' ⟨A', n', c', rfl, hB, _, h2⟩
    obtain ⟨h3, h4⟩ := h2 rfl
    rw [l4_prog] at h3 h4
    have h5 : n' = 3 := h3
    subst h5
    obtain ⟨b, rfl, hle, c0, c1, c2, c3⟩ := at_ins h4 0 (by decide)
    obtain ⟨b', he, _, d0, d1, d2, d3⟩ := at_ins h4 2 (by decide)
    injection he with he
    injection he with he
    subst he
    exact ⟨b, c', rfl, hB, hle, c0, c1, c2, c3, d0, d1, d2, d3⟩
  clear hW1
  go_enter Try.func12, Try.ntmps12
  go_wp2_with (go_at_call 8; rw [HW1.out]; refine (HA.out _ rfl).mono ?_; rintro e w2 ⟨b, c', rfl, hB2, hle, c0, c1, c2, c3, d0, d1, d2, d3⟩)
  go_ret
  exact ⟨rfl, HB1.out.trans (hB2.mono HB1.out.size)⟩
end Go.Proofs.Ytiofgaadfbjnoaa
