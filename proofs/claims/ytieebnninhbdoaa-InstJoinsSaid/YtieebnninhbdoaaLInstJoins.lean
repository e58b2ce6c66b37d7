/-
  The law InstJoins: for every two rows of instructions the law returns true. No condition.
-/
import Derived.Test.YtieebnninhbdoaaRows
import Derived.Test.YtieebnninhbdoaaIf
import Derived.WalkKit
import Derived.ProofKit
import Derived.OpenShut
import Derived.ShutString
import Derived.ChangeOld
import Derived.Below
import Derived.Lib.SmallJoins
import Derived.Deep.RegionWith
import Derived.Deep.RegionHeld3
namespace Go.Proofs.Ytieebnninhbdoaa
open Go.RowKit

/-- One row of instructions behind another. -/
def gcat (n : Nat) (g h : Nat → IV) (i : Nat) : IV := if i < n then g i else h (i - n)
theorem icell_gcat (g h : Nat → IV) (n N : Nat) : ∀ i, i < N * 4 → catC (n * 4) (icell g) (icell h) i = icell (gcat n g h) i := fun i _ => by
  unfold catC
  split
  · rename_i hi
    unfold icell gcat
    rw [if_pos (show i / 4 < n by omega)]
  · rename_i hi
    unfold icell gcat
    rw [if_neg (show ¬ i / 4 < n by omega), show (i - n * 4) / 4 = i / 4 - n from by omega, show (i - n * 4) % 4 = i % 4 from by omega]
theorem wbytes_lo (g h : Nat → IV) (n : Nat) : ∀ i, i < 8 * n → wbytes (gcat n g h) i = wbytes g i := fun i hi => by
  unfold wbytes gcat; rw [if_pos (by omega)]
theorem wbytes_hi (g h : Nat → IV) (n i : Nat) : wbytes (gcat n g h) (8 * n + i) = wbytes h i := by
  unfold wbytes gcat; rw [if_neg (by omega), show (8 * n + i) / 8 - n = i / 8 from by omega, show (8 * n + i) % 8 = i % 8 from by omega]
theorem gcat_ok (g h : Nat → IV) (n m : Nat) (hg : ∀ i, i < n → (g i).ok) (hh : ∀ i, i < m → (h i).ok) : ∀ i, i < n + m → (gcat n g h i).ok := fun i hi => by
  unfold gcat; split
  · exact hg i (by omega)
  · exact hh _ (by omega)
theorem foldl_push (l : List Nat) : ∀ r : ByteArray, l.foldl (fun r x => r.push (UInt8.ofNat x)) r = r ++ l.foldl (fun r x => r.push (UInt8.ofNat x)) ByteArray.empty := by
  induction l with
  | nil => intro r; simp
  | cons x l ih =>
    intro r
    simp only [List.foldl_cons]
    rw [ih (r.push _), ih (ByteArray.empty.push _), ← ByteArray.append_assoc]
    congr 1
    apply ByteArray.ext
    simp [ByteArray.push]
theorem size_foldl_push (l : List Nat) : ∀ r : ByteArray, (l.foldl (fun r x => r.push (UInt8.ofNat x)) r).size = r.size + l.length := by
  induction l with
  | nil => intro r; simp
  | cons x l ih =>
    intro r
    simp only [List.foldl_cons, List.length_cons]
    rw [ih, ByteArray.size_push]
    omega
theorem sbytes_size (n : Nat) (f : Nat → Nat) : (sbytes n f).size = n := by
  unfold sbytes
  rw [size_foldl_push]
  simp
theorem sbytes_add (n m : Nat) (f : Nat → Nat) : sbytes (n + m) f = sbytes n f ++ sbytes m (fun i => f (n + i)) := by
  unfold sbytes
  rw [List.range_add, List.map_append, List.foldl_append, foldl_push, List.map_map]
  rfl
theorem sbytes_joins (g h : Nat → IV) (n m : Nat) : sbytes (8 * (n + m)) (wbytes (gcat n g h)) = sbytes (8 * n) (wbytes g) ++ sbytes (8 * m) (wbytes h) := by
  rw [show 8 * (n + m) = 8 * n + 8 * m from by omega, sbytes_add, sbytes_congr (8 * n) _ _ (wbytes_lo g h n), sbytes_congr (8 * m) _ _ (fun i _ => wbytes_hi g h n i)]

theorem Ins.drew3 {w : World} {B n c : Nat} {A : Option Addr} {g : Nat → IV} (h : Ins w B A n c g) : Ins w.drew B A n c g := h
theorem Byt.drew3 {w : World} {B n c : Nat} {A : Option Addr} {f : Nat → Nat} (h : Byt w B A n c f) : Byt w.drew B A n c f := h
/-- What holds with more held holds with less. -/
theorem wpAnyH_held {P : Program} {md : Region.Mode} {ops : Array Oper} {Q : Exit → Act → World → Prop} {S S' : World → Prop} (hS : ∀ w, S' w → S w) : ∀ {fuel : Nat} {listed : Array Bool} {a : Act} {w : World}, wpAnyH P md ops Q S' fuel listed a w → wpAnyH P md ops Q S fuel listed a w
  | 0, _, _, _, h => h
  | _ + 1, _, _, _, h => ⟨h.1, fun i hi => wpOp_mono (fun _ _ h' => ⟨hS _ h'.1, wpAnyH_held hS h'.2⟩) (h.2 i hi)⟩
set_option maxRecDepth 100000 in
set_option maxHeartbeats 60000000 in
theorem joins_ok {w0 : World} (A : Option Addr) (n c : Nat) (g : Nat → IV) (hr : Ins w0 w0.heap.size A n c g) (C : Option Addr) (m d : Nat) (h : Nat → IV) (hs : Ins w0 w0.heap.size C m d h) (hn : n ≤ 300) (hm : m ≤ 300) :
    Calls Try.prog 8 #[.slice A n c, .slice C m d] w0 fun e w' => e = .returned (.bool true) ∧ Below w0.heap.size w0 w' := by
  have HC := Lib.hid (icell_gcat g h n (n + m))
  have HO := Lib.hid (gcat_ok g h n m hr.2 hs.2)
  obtain ⟨S1, e1⟩ : ∃ S, sbytes (8 * n) (wbytes g) = S := ⟨_, rfl⟩
  obtain ⟨S2, e2⟩ : ∃ S, sbytes (8 * m) (wbytes h) = S := ⟨_, rfl⟩
  have HS := Lib.hid (sbytes_joins g h n m)
  rw [e1, e2] at HS
  have z1 : S1.size = 8 * n := by rw [← e1, sbytes_size]
  have z2 : S2.size = 8 * m := by rw [← e2, sbytes_size]
  have z12 : (S1 ++ S2).size ≤ maxLen := by rw [ByteArray.size_append, z1, z2]; unfold maxLen; omega
  have z3 : S1.size + S2.size ≤ maxLen := by rw [z1, z2]; unfold maxLen; omega
  have z4 : ¬ S1.size + S2.size > 9223372036854775807 := by rw [z1, z2]; omega
  have E1 := Lib.hid e1
  have E2 := Lib.hid e2
  clear e1 e2
  go_enter Try.func8, Try.ntmps8
  go_wp2_with fail
  refine (of2_any _ _ _ _ _ (by omega) hr).mono ?_
  rintro e w1 ⟨A1, c1, rfl, hown1, hB1⟩
  go_wp2_with fail
  refine (of2_any _ _ _ _ _ (by omega) ((hs.below hB1).more hB1.size)).mono ?_
  rintro e w2 ⟨A2, c2, rfl, hown2, hB2⟩
  have hb2 := hB1.trans (hB2.mono hB1.size)
  have hown3 := hown1.below hB2 (Nat.le_refl _)
  have hs2 := hb2.size
  go_wp2_with (at_builtin; go_must (refine app_cells _ rfl _ _ _ 72 rfl Try.underlying41 infoI rfl (by decide) rfl hown3 rfl hown2.cel (fun i _ => icell_one _ i) (by unfold maxLen; omega) (by omega) hs2 (n + m) rfl (icell (gcat n g h)) HC.out ?_; rintro A3 c3 w3 hown4 hB4))
  have hb4 := hb2.trans hB4
  have hi4 : Ins w3 w3.heap.size A3 (n + m) c3 (gcat n g h) := ⟨hown4.cel, HO.out⟩
  refine (write_any _ _ _ _ _ (by omega) hi4).mono ?_
  rintro e w4 ⟨A5, c5, rfl, hown5, hB5⟩
  have hb5 := hb4.trans (hB5.mono hb4.size)
  have hby := hown5.byt
  have hr5 := (hr.below hb5).more hb5.size
  have hs5 := (hs.below hb5).more hb5.size
  have hstr0 := str_of_byt (P := Try.prog) Try.underlying37 Try.underlying5 Try.underlying9 hby.drew3
  rw [HS.out] at hstr0
  go_wp2_with fail
  have v1 : IntKind.i64.wrap ((n : Int) + (m : Int)) = (n : Int) + (m : Int) := IntWalk.i64_in _ (by omega)
  have v2 : IntKind.i64.wrap (8 * ((n : Int) + (m : Int))) = 8 * ((n : Int) + (m : Int)) := IntWalk.i64_in _ (by omega)
  have v3 : (((8 * (n + m) : Nat) : Int) == 8 * ((n : Int) + (m : Int))) = true := by rw [beq_iff_eq]; omega
  have z5 : ¬ 9223372036854775807 < 8 * n + 8 * m := by omega
  refine wp_region_held_drew (S := fun w' => (convert 37 9 (.slice A5 (8 * (n + m)) c5)).run Try.prog w' = .ok (.string (S1 ++ S2)) w') (by kernel_rfl) hstr0 (fun hHeld => ?_)
  refine wpAnyH_take (i := 0) (oi := ({ dst := some 20, op := Op.move (Operand.tmp 5), type := 37, pos := "outright.go:52", after := #[], guard := none } : Oper)) (v := ?v0) rfl (by kernel_rfl) (by kernel_rfl) (by kernel_rfl) (fun _ _ _ h => h) (Or.inl ⟨by rfl, ?h0⟩) hHeld ?r0
  case h0 =>
    intro w hSw
    (try dsimp only at hSw)
    go_simp
    all_goals with_reducible rfl
  try simp only [Act.put, List.setIfInBounds_toArray, List.set_cons_zero, List.set_cons_succ]
  refine wpAnyH_take (i := 1) (oi := ({ dst := some 21, op := Op.convert 37 9 (Operand.tmp 20), type := 9, pos := "outright.go:52", after := #[{ on := 0, ground := Ground.data }], guard := none } : Oper)) (v := ?v1) rfl (by kernel_rfl) (by kernel_rfl) (by kernel_rfl) (fun _ _ _ h => h) (Or.inl ⟨by rfl, ?h1⟩) hHeld ?r1
  case h1 =>
    intro w hSw
    (try dsimp only at hSw)
    go_simp
    all_goals with_reducible rfl
  try simp only [Act.put, List.setIfInBounds_toArray, List.set_cons_zero, List.set_cons_succ]
  refine wpAnyH_take (i := 2) (oi := ({ dst := some 22, op := Op.move (Operand.tmp 0), type := 39, pos := "outright.go:52", after := #[], guard := none } : Oper)) (v := ?v2) rfl (by kernel_rfl) (by kernel_rfl) (by kernel_rfl) (fun _ _ _ h => h) (Or.inl ⟨by rfl, ?h2⟩) hHeld ?r2
  case h2 =>
    intro w hSw
    (try dsimp only at hSw)
    go_simp
    all_goals with_reducible rfl
  try simp only [Act.put, List.setIfInBounds_toArray, List.set_cons_zero, List.set_cons_succ]
  refine wpAnyH_take (i := 6) (oi := ({ dst := some 26, op := Op.move (Operand.tmp 1), type := 39, pos := "outright.go:52", after := #[], guard := none } : Oper)) (v := ?v6) rfl (by kernel_rfl) (by kernel_rfl) (by kernel_rfl) (fun _ _ _ h => h) (Or.inl ⟨by rfl, ?h6⟩) hHeld ?r6
  case h6 =>
    intro w hSw
    (try dsimp only at hSw)
    go_simp
    all_goals with_reducible rfl
  try simp only [Act.put, List.setIfInBounds_toArray, List.set_cons_zero, List.set_cons_succ]
  refine wpAnyH_ready (rs := [3]) (by kernel_rfl) (by simp) ?_
  refine AllReadyH.cons (o := ({ dst := some 23, op := Op.call { callee := Callee.value (Operand.func 16), args := #[Operand.tmp 22], argTypes := #[39] }, type := 41, pos := "outright.go:52", after := #[{ on := 2, ground := Ground.data }], guard := none } : Oper)) rfl (fun K hK => ?_) AllReadyH.nil
  go_simp
  refine (of2_any _ _ _ g _ (by omega) hr5.drew3).mono ?_
  rintro e w6 ⟨A6, c6, rfl, hown6, hB6⟩
  have hi6 : Ins w6 w6.heap.size A6 n c6 g := ⟨hown6.cel, hr.2⟩
  have hb6 := hb5.drew.trans (hB6.mono hb5.size)
  have hby6 := (hby.drew3.below hB6).more hB6.size
  have hstr1 := str_of_byt (P := Try.prog) Try.underlying37 Try.underlying5 Try.underlying9 hby6
  rw [HS.out] at hstr1
  try go_wp2_with fail
  refine hK.out _ _ ?k3 (fun hHeld2 => ?_)
  case k3 => exact hstr1
  clear hK K
  try simp only [Act.put, List.setIfInBounds_toArray, List.set_cons_zero, List.set_cons_succ]
  replace hHeld := hHeld2
  clear hHeld2
  refine wpAnyH_ready (rs := [4]) (by kernel_rfl) (by simp) ?_
  refine AllReadyH.cons (o := ({ dst := some 24, op := Op.call { callee := Callee.value (Operand.func 15), args := #[Operand.tmp 23], argTypes := #[41] }, type := 37, pos := "outright.go:52", after := #[{ on := 3, ground := Ground.data }, { on := 3, ground := Ground.chain }], guard := none } : Oper)) rfl (fun K hK => ?_) AllReadyH.nil
  go_simp
  refine (write_any _ _ _ g _ (by omega) hi6).mono ?_
  rintro e w7 ⟨A7, c7, rfl, hown7, hB7⟩
  have hb7 := hb6.trans (hB7.mono hb6.size)
  have hby7 := (hby6.below hB7).more hB7.size
  have hx7 := hown7.byt
  have hstr2 := str_of_byt (P := Try.prog) Try.underlying37 Try.underlying5 Try.underlying9 hby7
  have hstr3 := str_of_byt (P := Try.prog) Try.underlying37 Try.underlying5 Try.underlying9 hx7
  rw [HS.out] at hstr2
  rw [E1.out] at hstr3
  try go_wp2_with fail
  refine hK.out _ _ ?k4 (fun hHeld2 => ?_)
  case k4 => exact hstr2
  clear hK K
  try simp only [Act.put, List.setIfInBounds_toArray, List.set_cons_zero, List.set_cons_succ]
  replace hHeld := hHeld2
  clear hHeld2
  refine wpAnyH_held (S' := fun w' => (convert 37 9 (.slice A5 (8 * (n + m)) c5)).run Try.prog w' = .ok (.string (S1 ++ S2)) w' ∧ (convert 37 9 (.slice A7 (8 * n) c7)).run Try.prog w' = .ok (.string S1) w') (fun _ h => h.1) ?_
  replace hHeld : (convert 37 9 (.slice A5 (8 * (n + m)) c5)).run Try.prog w7 = .ok (.string (S1 ++ S2)) w7 ∧ (convert 37 9 (.slice A7 (8 * n) c7)).run Try.prog w7 = .ok (.string S1) w7 := ⟨hstr2, hstr3⟩
  refine wpAnyH_take (i := 5) (oi := ({ dst := some 25, op := Op.convert 37 9 (Operand.tmp 24), type := 9, pos := "outright.go:52", after := #[{ on := 4, ground := Ground.data }], guard := none } : Oper)) (v := ?v5) rfl (by kernel_rfl) (by kernel_rfl) (by kernel_rfl) (fun _ _ _ h => h) (Or.inl ⟨by rfl, ?h5⟩) hHeld ?r5
  case h5 =>
    intro w hSw
    obtain ⟨hSw1, hSw2⟩ := hSw
    go_simp
    all_goals with_reducible rfl
  try simp only [Act.put, List.setIfInBounds_toArray, List.set_cons_zero, List.set_cons_succ]
  refine wpAnyH_ready (rs := [7]) (by kernel_rfl) (by simp) ?_
  refine AllReadyH.cons (o := ({ dst := some 27, op := Op.call { callee := Callee.value (Operand.func 16), args := #[Operand.tmp 26], argTypes := #[39] }, type := 41, pos := "outright.go:52", after := #[{ on := 6, ground := Ground.data }, { on := 4, ground := Ground.chain }], guard := none } : Oper)) rfl (fun K hK => ?_) AllReadyH.nil
  go_simp
  refine (of2_any _ _ _ h _ (by omega) ((hs.below hb7).more hb7.size)).mono ?_
  rintro e w8 ⟨A8, c8, rfl, hown8, hB8⟩
  have hi8 : Ins w8 w8.heap.size A8 m c8 h := ⟨hown8.cel, hs.2⟩
  have hb8 := hb7.trans (hB8.mono hb7.size)
  have hby8 := (hby7.below hB8).more hB8.size
  have hx8 := (hx7.below hB8).more hB8.size
  have hstr4 := str_of_byt (P := Try.prog) Try.underlying37 Try.underlying5 Try.underlying9 hby8
  have hstr5 := str_of_byt (P := Try.prog) Try.underlying37 Try.underlying5 Try.underlying9 hx8
  rw [HS.out] at hstr4
  rw [E1.out] at hstr5
  try go_wp2_with fail
  refine hK.out _ _ ?k7 (fun hHeld2 => ?_)
  case k7 => exact ⟨hstr4, hstr5⟩
  clear hK K
  try simp only [Act.put, List.setIfInBounds_toArray, List.set_cons_zero, List.set_cons_succ]
  replace hHeld := hHeld2
  clear hHeld2
  refine wpAnyH_ready (rs := [8]) (by kernel_rfl) (by simp) ?_
  refine AllReadyH.cons (o := ({ dst := some 28, op := Op.call { callee := Callee.value (Operand.func 15), args := #[Operand.tmp 27], argTypes := #[41] }, type := 37, pos := "outright.go:52", after := #[{ on := 7, ground := Ground.data }, { on := 7, ground := Ground.chain }], guard := none } : Oper)) rfl (fun K hK => ?_) AllReadyH.nil
  go_simp
  refine (write_any _ _ _ h _ (by omega) hi8).mono ?_
  rintro e w9 ⟨A9, c9, rfl, hown9, hB9⟩
  have hb9 := hb8.trans (hB9.mono hb8.size)
  have hby9 := (hby8.below hB9).more hB9.size
  have hx9 := (hx8.below hB9).more hB9.size
  have hy9 := hown9.byt
  have hstr6 := str_of_byt (P := Try.prog) Try.underlying37 Try.underlying5 Try.underlying9 hby9
  have hstr7 := str_of_byt (P := Try.prog) Try.underlying37 Try.underlying5 Try.underlying9 hx9
  have hstr8 := str_of_byt (P := Try.prog) Try.underlying37 Try.underlying5 Try.underlying9 hy9
  rw [HS.out] at hstr6
  rw [E1.out] at hstr7
  rw [E2.out] at hstr8
  try go_wp2_with fail
  refine hK.out _ _ ?k8 (fun hHeld2 => ?_)
  case k8 => exact ⟨hstr6, hstr7⟩
  clear hK K
  try simp only [Act.put, List.setIfInBounds_toArray, List.set_cons_zero, List.set_cons_succ]
  replace hHeld := hHeld2
  clear hHeld2
  refine wpAnyH_held (S' := fun w' => ((convert 37 9 (.slice A5 (8 * (n + m)) c5)).run Try.prog w' = .ok (.string (S1 ++ S2)) w' ∧ (convert 37 9 (.slice A7 (8 * n) c7)).run Try.prog w' = .ok (.string S1) w') ∧ (convert 37 9 (.slice A9 (8 * m) c9)).run Try.prog w' = .ok (.string S2) w') (fun _ h => h.1) ?_
  replace hHeld : ((convert 37 9 (.slice A5 (8 * (n + m)) c5)).run Try.prog w9 = .ok (.string (S1 ++ S2)) w9 ∧ (convert 37 9 (.slice A7 (8 * n) c7)).run Try.prog w9 = .ok (.string S1) w9) ∧ (convert 37 9 (.slice A9 (8 * m) c9)).run Try.prog w9 = .ok (.string S2) w9 := ⟨⟨hstr6, hstr7⟩, hstr8⟩
  refine wpAnyH_take (i := 9) (oi := ({ dst := some 29, op := Op.convert 37 9 (Operand.tmp 28), type := 9, pos := "outright.go:52", after := #[{ on := 8, ground := Ground.data }], guard := none } : Oper)) (v := ?v9) rfl (by kernel_rfl) (by kernel_rfl) (by kernel_rfl) (fun _ _ _ h => h) (Or.inl ⟨by rfl, ?h9⟩) hHeld ?r9
  case h9 =>
    intro w hSw
    obtain ⟨⟨hSw1, hSw2⟩, hSw3⟩ := hSw
    go_simp
    all_goals with_reducible rfl
  try simp only [Act.put, List.setIfInBounds_toArray, List.set_cons_zero, List.set_cons_succ]
  refine wpAnyH_take (i := 10) (oi := ({ dst := some 30, op := Op.binOp BinOp.add 9 (Operand.tmp 25) (Operand.tmp 29) 9, type := 9, pos := "outright.go:52", after := #[{ on := 5, ground := Ground.data }, { on := 9, ground := Ground.data }], guard := none } : Oper)) (v := ?v10) rfl (by kernel_rfl) (by kernel_rfl) (by kernel_rfl) (fun _ _ _ h => h) (Or.inl ⟨by rfl, ?h10⟩) hHeld ?r10
  case h10 =>
    intro w hSw
    obtain ⟨⟨hSw1, hSw2⟩, hSw3⟩ := hSw
    go_simp
    all_goals with_reducible rfl
  try simp only [Act.put, List.setIfInBounds_toArray, List.set_cons_zero, List.set_cons_succ]
  refine wpAnyH_take (i := 11) (oi := ({ dst := some 31, op := Op.binOp BinOp.eql 9 (Operand.tmp 21) (Operand.tmp 30) 9, type := 4, pos := "outright.go:52", after := #[{ on := 1, ground := Ground.data }, { on := 10, ground := Ground.data }], guard := none } : Oper)) (v := ?v11) rfl (by kernel_rfl) (by kernel_rfl) (by kernel_rfl) (fun _ _ _ h => h) (Or.inl ⟨by rfl, ?h11⟩) hHeld ?r11
  case h11 =>
    intro w hSw
    obtain ⟨⟨hSw1, hSw2⟩, hSw3⟩ := hSw
    go_simp
    all_goals with_reducible rfl
  try simp only [Act.put, List.setIfInBounds_toArray, List.set_cons_zero, List.set_cons_succ]
  refine wpAnyH_take (i := 12) (oi := ({ dst := some 32, op := Op.move (Operand.tmp 31), type := 4, pos := "outright.go:52", after := #[{ on := 11, ground := Ground.data }, { on := 8, ground := Ground.chain }], guard := none } : Oper)) (v := ?v12) rfl (by kernel_rfl) (by kernel_rfl) (by kernel_rfl) (fun _ _ _ h => h) (Or.inl ⟨by rfl, ?h12⟩) hHeld ?r12
  case h12 =>
    intro w hSw
    obtain ⟨⟨hSw1, hSw2⟩, hSw3⟩ := hSw
    go_simp
    all_goals with_reducible rfl
  try simp only [Act.put, List.setIfInBounds_toArray, List.set_cons_zero, List.set_cons_succ]
  refine wpAnyH_take (i := 13) (oi := ({ dst := some 33, op := Op.move (Operand.tmp 5), type := 37, pos := "outright.go:52", after := #[{ on := 12, ground := Ground.guard }], guard := some (12, true) } : Oper)) (v := ?v13) rfl (by kernel_rfl) (by kernel_rfl) (by kernel_rfl) (fun _ _ _ h => h) (Or.inl ⟨by rfl, ?h13⟩) hHeld ?r13
  case h13 =>
    intro w hSw
    obtain ⟨⟨hSw1, hSw2⟩, hSw3⟩ := hSw
    go_simp
    all_goals with_reducible rfl
  try simp only [Act.put, List.setIfInBounds_toArray, List.set_cons_zero, List.set_cons_succ]
  refine wpAnyH_take (i := 14) (oi := ({ dst := some 34, op := Op.call { callee := Callee.builtin Builtin.len, args := #[Operand.tmp 33], argTypes := #[37] }, type := 3, pos := "outright.go:52", after := #[{ on := 13, ground := Ground.data }, { on := 12, ground := Ground.guard }], guard := some (12, true) } : Oper)) (v := ?v14) rfl (by kernel_rfl) (by kernel_rfl) (by kernel_rfl) (fun _ _ _ h => h) (Or.inl ⟨by rfl, ?h14⟩) hHeld ?r14
  case h14 =>
    intro w hSw
    obtain ⟨⟨hSw1, hSw2⟩, hSw3⟩ := hSw
    go_simp
    all_goals with_reducible rfl
  try simp only [Act.put, List.setIfInBounds_toArray, List.set_cons_zero, List.set_cons_succ]
  refine wpAnyH_take (i := 15) (oi := ({ dst := some 35, op := Op.move (Operand.tmp 0), type := 39, pos := "outright.go:52", after := #[{ on := 12, ground := Ground.guard }], guard := some (12, true) } : Oper)) (v := ?v15) rfl (by kernel_rfl) (by kernel_rfl) (by kernel_rfl) (fun _ _ _ h => h) (Or.inl ⟨by rfl, ?h15⟩) hHeld ?r15
  case h15 =>
    intro w hSw
    obtain ⟨⟨hSw1, hSw2⟩, hSw3⟩ := hSw
    go_simp
    all_goals with_reducible rfl
  try simp only [Act.put, List.setIfInBounds_toArray, List.set_cons_zero, List.set_cons_succ]
  refine wpAnyH_take (i := 16) (oi := ({ dst := some 36, op := Op.call { callee := Callee.builtin Builtin.len, args := #[Operand.tmp 35], argTypes := #[39] }, type := 3, pos := "outright.go:52", after := #[{ on := 15, ground := Ground.data }, { on := 12, ground := Ground.guard }], guard := some (12, true) } : Oper)) (v := ?v16) rfl (by kernel_rfl) (by kernel_rfl) (by kernel_rfl) (fun _ _ _ h => h) (Or.inl ⟨by rfl, ?h16⟩) hHeld ?r16
  case h16 =>
    intro w hSw
    obtain ⟨⟨hSw1, hSw2⟩, hSw3⟩ := hSw
    go_simp
    all_goals with_reducible rfl
  try simp only [Act.put, List.setIfInBounds_toArray, List.set_cons_zero, List.set_cons_succ]
  refine wpAnyH_take (i := 17) (oi := ({ dst := some 37, op := Op.move (Operand.tmp 1), type := 39, pos := "outright.go:52", after := #[{ on := 12, ground := Ground.guard }], guard := some (12, true) } : Oper)) (v := ?v17) rfl (by kernel_rfl) (by kernel_rfl) (by kernel_rfl) (fun _ _ _ h => h) (Or.inl ⟨by rfl, ?h17⟩) hHeld ?r17
  case h17 =>
    intro w hSw
    obtain ⟨⟨hSw1, hSw2⟩, hSw3⟩ := hSw
    go_simp
    all_goals with_reducible rfl
  try simp only [Act.put, List.setIfInBounds_toArray, List.set_cons_zero, List.set_cons_succ]
  refine wpAnyH_take (i := 18) (oi := ({ dst := some 38, op := Op.call { callee := Callee.builtin Builtin.len, args := #[Operand.tmp 37], argTypes := #[39] }, type := 3, pos := "outright.go:52", after := #[{ on := 17, ground := Ground.data }, { on := 12, ground := Ground.guard }], guard := some (12, true) } : Oper)) (v := ?v18) rfl (by kernel_rfl) (by kernel_rfl) (by kernel_rfl) (fun _ _ _ h => h) (Or.inl ⟨by rfl, ?h18⟩) hHeld ?r18
  case h18 =>
    intro w hSw
    obtain ⟨⟨hSw1, hSw2⟩, hSw3⟩ := hSw
    go_simp
    all_goals with_reducible rfl
  try simp only [Act.put, List.setIfInBounds_toArray, List.set_cons_zero, List.set_cons_succ]
  refine wpAnyH_take (i := 19) (oi := ({ dst := some 39, op := Op.binOp BinOp.add 3 (Operand.tmp 36) (Operand.tmp 38) 3, type := 3, pos := "outright.go:52", after := #[{ on := 16, ground := Ground.data }, { on := 18, ground := Ground.data }, { on := 12, ground := Ground.guard }], guard := some (12, true) } : Oper)) (v := ?v19) rfl (by kernel_rfl) (by kernel_rfl) (by kernel_rfl) (fun _ _ _ h => h) (Or.inl ⟨by rfl, ?h19⟩) hHeld ?r19
  case h19 =>
    intro w hSw
    obtain ⟨⟨hSw1, hSw2⟩, hSw3⟩ := hSw
    go_simp
    all_goals with_reducible rfl
  try simp only [Act.put, List.setIfInBounds_toArray, List.set_cons_zero, List.set_cons_succ]
  refine wpAnyH_take (i := 20) (oi := ({ dst := some 40, op := Op.binOp BinOp.mul 3 (Operand.const (Value.int IntKind.i64 8)) (Operand.tmp 39) 3, type := 3, pos := "outright.go:52", after := #[{ on := 19, ground := Ground.data }, { on := 12, ground := Ground.guard }], guard := some (12, true) } : Oper)) (v := ?v20) rfl (by kernel_rfl) (by kernel_rfl) (by kernel_rfl) (fun _ _ _ h => h) (Or.inl ⟨by rfl, ?h20⟩) hHeld ?r20
  case h20 =>
    intro w hSw
    obtain ⟨⟨hSw1, hSw2⟩, hSw3⟩ := hSw
    go_simp
    all_goals with_reducible rfl
  try simp only [Act.put, List.setIfInBounds_toArray, List.set_cons_zero, List.set_cons_succ]
  refine wpAnyH_take (i := 21) (oi := ({ dst := some 41, op := Op.binOp BinOp.eql 3 (Operand.tmp 34) (Operand.tmp 40) 3, type := 4, pos := "outright.go:52", after := #[{ on := 14, ground := Ground.data }, { on := 20, ground := Ground.data }, { on := 12, ground := Ground.guard }], guard := some (12, true) } : Oper)) (v := ?v21) rfl (by kernel_rfl) (by kernel_rfl) (by kernel_rfl) (fun _ _ _ h => h) (Or.inl ⟨by rfl, ?h21⟩) hHeld ?r21
  case h21 =>
    intro w hSw
    obtain ⟨⟨hSw1, hSw2⟩, hSw3⟩ := hSw
    go_simp
    all_goals with_reducible rfl
  try simp only [Act.put, List.setIfInBounds_toArray, List.set_cons_zero, List.set_cons_succ]
  refine wpAnyH_take (i := 22) (oi := ({ dst := some 42, op := Op.pick (Operand.tmp 32) (Operand.tmp 41) (Operand.const (Value.bool false)), type := 4, pos := "outright.go:52", after := #[{ on := 12, ground := Ground.data }, { on := 21, ground := Ground.data }], guard := none } : Oper)) (v := ?v22) rfl (by kernel_rfl) (by kernel_rfl) (by kernel_rfl) (fun _ _ _ h => h) (Or.inl ⟨by rfl, ?h22⟩) hHeld ?r22
  case h22 =>
    intro w hSw
    obtain ⟨⟨hSw1, hSw2⟩, hSw3⟩ := hSw
    go_simp
    all_goals with_reducible rfl
  try simp only [Act.put, List.setIfInBounds_toArray, List.set_cons_zero, List.set_cons_succ]
  refine wpAnyH_take (i := 23) (oi := ({ dst := some 43, op := Op.move (Operand.tmp 42), type := 4, pos := "outright.go:52", after := #[{ on := 22, ground := Ground.data }, { on := 12, ground := Ground.chain }], guard := none } : Oper)) (v := ?v23) rfl (by kernel_rfl) (by kernel_rfl) (by kernel_rfl) (fun _ _ _ h => h) (Or.inl ⟨by rfl, ?h23⟩) hHeld ?r23
  case h23 =>
    intro w hSw
    obtain ⟨⟨hSw1, hSw2⟩, hSw3⟩ := hSw
    go_simp
    all_goals with_reducible rfl
  try simp only [Act.put, List.setIfInBounds_toArray, List.set_cons_zero, List.set_cons_succ]
  refine wpAnyH_ready (rs := [24]) (by kernel_rfl) (by simp) ?_
  refine AllReadyH.cons (o := ({ dst := some 44, op := Op.call { callee := Callee.value (Operand.func 17), args := #[], argTypes := #[] }, type := 4, pos := "outright.go:52", after := #[{ on := 23, ground := Ground.chain }, { on := 23, ground := Ground.guard }], guard := some (23, true) } : Oper)) rfl (fun K hK => ?_) AllReadyH.nil
  go_simp
  refine (awake2_any _).mono ?_
  rintro e w10 ⟨rfl, hB10⟩
  have hb10 := hb9.trans (hB10.mono hb9.size)
  have hstr10 := str_of_byt (P := Try.prog) Try.underlying37 Try.underlying5 Try.underlying9 (hby9.below hB10)
  have hstr11 := str_of_byt (P := Try.prog) Try.underlying37 Try.underlying5 Try.underlying9 (hx9.below hB10)
  have hstr12 := str_of_byt (P := Try.prog) Try.underlying37 Try.underlying5 Try.underlying9 (hy9.below hB10)
  rw [HS.out] at hstr10
  rw [E1.out] at hstr11
  rw [E2.out] at hstr12
  try go_wp2_with fail
  refine hK.out _ _ ?k24 (fun hHeld2 => ?_)
  case k24 => exact ⟨⟨hstr10, hstr11⟩, hstr12⟩
  clear hK K
  try simp only [Act.put, List.setIfInBounds_toArray, List.set_cons_zero, List.set_cons_succ]
  replace hHeld := hHeld2
  clear hHeld2
  refine wpAnyH_take (i := 25) (oi := ({ dst := some 45, op := Op.pick (Operand.tmp 43) (Operand.tmp 44) (Operand.const (Value.bool false)), type := 4, pos := "outright.go:52", after := #[{ on := 23, ground := Ground.data }, { on := 24, ground := Ground.data }], guard := none } : Oper)) (v := ?v25) rfl (by kernel_rfl) (by kernel_rfl) (by kernel_rfl) (fun _ _ _ h => h) (Or.inl ⟨by rfl, ?h25⟩) hHeld ?r25
  case h25 =>
    intro w hSw
    obtain ⟨⟨hSw1, hSw2⟩, hSw3⟩ := hSw
    go_simp
    all_goals with_reducible rfl
  try simp only [Act.put, List.setIfInBounds_toArray, List.set_cons_zero, List.set_cons_succ]
  refine wpAnyH_take (i := 26) (oi := ({ dst := some 4, op := Op.assign (Operand.tmp 45), type := 4, pos := "outright.go:52", after := #[{ on := 25, ground := Ground.data }, { on := 24, ground := Ground.chain }, { on := 0, ground := Ground.phase }, { on := 1, ground := Ground.phase }, { on := 2, ground := Ground.phase }, { on := 3, ground := Ground.phase }, { on := 4, ground := Ground.phase }, { on := 5, ground := Ground.phase }, { on := 6, ground := Ground.phase }, { on := 7, ground := Ground.phase }, { on := 8, ground := Ground.phase }, { on := 9, ground := Ground.phase }, { on := 10, ground := Ground.phase }, { on := 11, ground := Ground.phase }, { on := 12, ground := Ground.phase }, { on := 13, ground := Ground.phase }, { on := 14, ground := Ground.phase }, { on := 15, ground := Ground.phase }, { on := 16, ground := Ground.phase }, { on := 17, ground := Ground.phase }, { on := 18, ground := Ground.phase }, { on := 19, ground := Ground.phase }, { on := 20, ground := Ground.phase }, { on := 21, ground := Ground.phase }, { on := 22, ground := Ground.phase }, { on := 23, ground := Ground.phase }, { on := 24, ground := Ground.phase }, { on := 25, ground := Ground.phase }], guard := none } : Oper)) (v := ?v26) rfl (by kernel_rfl) (by kernel_rfl) (by kernel_rfl) (fun _ _ _ h => h) (Or.inl ⟨by rfl, ?h26⟩) hHeld ?r26
  case h26 =>
    intro w hSw
    obtain ⟨⟨hSw1, hSw2⟩, hSw3⟩ := hSw
    go_simp
    all_goals with_reducible rfl
  try simp only [Act.put, List.setIfInBounds_toArray, List.set_cons_zero, List.set_cons_succ]
  refine wpAnyH_done (by kernel_rfl) ?_ _
  go_wp2
  go_ret
  exact ⟨rfl, hb10⟩

theorem walk_InstJoins {w0 : World} (A : Option Addr) (n c : Nat) (g : Nat → IV) (hr : Ins w0 w0.heap.size A n c g) (C : Option Addr) (m d : Nat) (h : Nat → IV) (hs : Ins w0 w0.heap.size C m d h) :
    Calls Try.prog 8 #[.slice A n c, .slice C m d] w0 fun e w' => e = .returned (.bool true) ∧ Below w0.heap.size w0 w' := by
  have hmx := hr.1.le
  have hmy := hs.1.le
  unfold maxLen at hmx hmy
  obtain ⟨m1, m2⟩ := hmx
  obtain ⟨m3, m4⟩ := hmy
  by_cases h1 : 300 < n
  · go_enter Try.func8, Try.ntmps8
    go_wp2
    go_ret
    exact ⟨rfl, Below.refl _ _⟩
  · by_cases h2 : 300 < m
    · go_enter Try.func8, Try.ntmps8
      go_wp2
      go_ret
      exact ⟨rfl, Below.refl _ _⟩
    · exact joins_ok A n c g hr C m d h hs (by omega) (by omega)

namespace instJoinsRow
open Go.ChangeShapes Go.WideShapes Go.ChangeAt Go.RowKit Go.Joins
open Go.ChangeMaps (open_string shut_string)
set_option linter.unusedVariables false
theorem own : ownKnob Try.prog.godebug = none := by kernel_rfl
theorem laidOut : laidOutB Try.prog = true := by kernel_rfl
set_option maxRecDepth 100000 in
theorem lifted (os : Os) (started : os.Started) (H : Type) (enc : TypeId × Value → H) :
    ReturnsInHanded {} Try.checked os 8 .any (Rows.instJoinsSpec.pre6 enc Try.prog Try.f8 Rows.instJoinsRow.domain false) (Rows.instJoinsSpec.post enc Try.prog Try.f8 false true false false) := by
  refine returnsInHanded_of_change (C := Try.checked) own started (by kernel_rfl) Try.func8
    (ChangeSpec.witness6 (enc := enc) (C := Try.checked) false ⟨#[], #[.slice none 0 0, .slice none 0 0], []⟩ 8 (by kernel_rfl) (by kernel_rfl) (by kernel_rfl) (by kernel_rfl)) ?_
  intro W base args ds gs before hval0 hW hcnd _
  have hval : ∀ (j : Nat) t v, Try.f8.params[j]? = some t → args[j]? = some v → Value.okWide Try.prog W .any base t v := hval0
  have hW' := hW
  obtain ⟨p, q, hA0, hV, rfl, hfz, hnd⟩ := hW
  have hA : DataW.TrodAll enc Try.prog W 0 (fun _ => true) true Try.f8.params.toList args.toList ds p := hA0
  rw [Try.params8] at hA hval
  obtain ⟨v0, vs0, d0, ds0, p0, q0, hargs, rfl, rfl, h0, r0⟩ := trodAll_cons hA
  obtain ⟨v1, vs1, d1, ds1, p1, q1, rfl, rfl, rfl, h1, r1⟩ := trodAll_cons r0
  obtain ⟨rfl, rfl, rfl⟩ := trodAll_nil r1
  obtain rfl : args = #[v0, v1] := by cases args; simp_all
  obtain ⟨rfl, rfl⟩ := trodVars_none hV
  have k0 := h0
  have lt0 : ∀ x ∈ p0, x.block < W.heap.size := by obtain ⟨m, hm⟩ := k0; exact DataW.trod_lt m _ _ _ hm
  have k1 := h1
  have lt1 : ∀ x ∈ p1, x.block < W.heap.size := by obtain ⟨m, hm⟩ := k1; exact DataW.trod_lt m _ _ _ hm
  obtain ⟨a0, len0, cap0, rfl⟩ := okWide_slice Try.underlying39 (hval 0 39 v0 rfl rfl)
  obtain ⟨g0, w0⟩ := open_ins h0
  obtain ⟨a1, len1, cap1, rfl⟩ := okWide_slice Try.underlying39 (hval 1 39 v1 rfl rfl)
  obtain ⟨g1, w1⟩ := open_ins h1
  clear hA0 hval0
  refine (walk_InstJoins (w0 := W) a0 len0 cap0 g0 w0 a1 len1 cap1 g1 w1).mono fun e W' ⟨he, bel⟩ => ?_
  subst he
  exact ⟨_, rfl, _, _, _, [], _, [], hW', trodAll_mk1 (shut_bool Try.underlying4 _), (trodAll_cons_mk (Below.trod laidOut (by kernel_rfl) (of_decide_eq_true (by kernel_rfl)) k0 bel lt0) (trodAll_cons_mk (Below.trod laidOut (by kernel_rfl) (of_decide_eq_true (by kernel_rfl)) k1 bel lt1) trodAll_mk0)), rfl, bel.frame _, fun h => by cases h⟩

theorem over : Rows.instJoinsRow.holds Try.pinned (OpenSpec.ofChange Rows.instJoinsSpec) :=
  OpenClaim.holds_of_wide 8 Try.f8 rfl rfl rfl rfl rfl rfl rfl ⟨rfl, rfl, rfl, rfl, rfl⟩ rfl rfl rfl rfl rfl (by kernel_rfl) Try.func8 (by kernel_rfl)
    (of_decide_eq_true (by kernel_rfl)) (by unfold Func.isWrapper; first | (rw [if_pos (by decide +kernel)]; kernel_rfl) | (rw [if_neg (by decide +kernel)]; exact ⟨rfl, rfl⟩))
    (fun os started H enc _ => lifted os started H enc)
end instJoinsRow

theorem instJoins_proved : Rows.InstJoinsSaid := instJoinsRow.over
#print axioms instJoins_proved
end Go.Proofs.Ytieebnninhbdoaa
