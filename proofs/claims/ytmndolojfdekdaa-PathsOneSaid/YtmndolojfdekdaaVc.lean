/-
  The contracts of the doings of a run that speak of a cell, go on elsewhere, or end it.
-/
import Derived.Test.YtmndolojfdekdaaVb
namespace Go.Proofs.Ytmndolojfdekdaa
open Go.RowKit

theorem StB.below {w W : World} {b B : Nat} {s : VS} {R : Value} (h : StB w b B s R) (hW : Below w.heap.size w W) : StB W b B s R := by
  obtain ⟨A, c, h1, h2⟩ := h
  exact ⟨A, c, h1.below hW h1.lt, h2.keep hW⟩
set_option maxRecDepth 100000 in
set_option maxHeartbeats 2000000 in
theorem m12_any (f : Nat → Nat) (v : IV) (s : VS) (b B : Nat) (R : Value) (w : World) (o : Nat) (h : StB w b B s R) (hbB : b < B) (hB : B ≤ w.heap.size) (hs : s.a < 4294967296) :
    Calls Try.prog 131 #[.pointer (some ⟨b, 0, none⟩), .agg (knA v)] w (Post b B R w (doK f 12 v s o)) := by
  obtain ⟨A, c, h1, h2⟩ := h
  have hst : StA w b B s R A c := ⟨h1, h2⟩
  have hblt := h1.lt
  have q0 : w.cell? ⟨b, 0, none⟩ = some (.int .u32 s.a) := h1.cell 0 _ rfl
  have z0 := h1.frozen (0)
  have eN : (-(s.a : Int) % 4294967296) = (((4294967296 - s.a) % 4294967296 : Nat) : Int) := by omega
  have EN := Lib.hid eN
  clear eN
  have HST := Lib.hid hst
  clear h1 h2 hst
  unfold knA
  go_enter Try.func131, Try.ntmps131
  go_wp2
  all_goals go_end0
  all_goals (rw [EN.out]; exact Post.go_ rfl rfl (upd_pre HST.out hbB hB 0 _ (s.seta ((4294967296 - s.a) % 4294967296)) rfl rfl ((Below.refl _ _).alloc (by simp [World.setCell]) _)))
set_option maxRecDepth 100000 in
set_option maxHeartbeats 2000000 in
theorem m3_any (f : Nat → Nat) (v : IV) (s : VS) (b B : Nat) (R : Value) (w : World) (o : Nat) (h : StB w b B s R) (hbB : b < B) (hB : B ≤ w.heap.size) (hk : v.k < 16) :
    Calls Try.prog 122 #[.pointer (some ⟨b, 0, none⟩), .agg (knA v)] w (Post b B R w (doK f 3 v s o)) := by
  obtain ⟨A, c, h1, h2⟩ := h
  have hst : StA w b B s R A c := ⟨h1, h2⟩
  have hblt := h1.lt
  have q0 : w.cell? ⟨b, 2 + v.k, none⟩ = some (.int .u32 (s.cl v.k)) := h1.cell _ _ (cells_cl s A c R v.k hk)
  have q1 : w.cell? ⟨b, 0, none⟩ = some (.int .u32 s.a) := h1.cell 0 _ rfl
  have z0 := h1.frozen (0)
  have i1 : (0 : Int) ≤ (v.k : Int) := by omega
  have i2 : (v.k : Int) < 16 := by omega
  have HST := Lib.hid hst
  clear h1 h2 hst
  unfold knA
  go_enter Try.func122, Try.ntmps122
  go_wp2
  go_region
  all_goals go_wp2
  all_goals go_end0
  all_goals (exact Post.go_ rfl rfl (upd_pre HST.out hbB hB (0) _ (s.seta (s.cl v.k)) rfl rfl ((Below.refl _ _).alloc (by simp [World.setCell]) _).drew))
set_option maxRecDepth 100000 in
set_option maxHeartbeats 2000000 in
theorem m6_any (f : Nat → Nat) (v : IV) (s : VS) (b B : Nat) (R : Value) (w : World) (o : Nat) (h : StB w b B s R) (hbB : b < B) (hB : B ≤ w.heap.size) (hk : v.k < 16) :
    Calls Try.prog 125 #[.pointer (some ⟨b, 0, none⟩), .agg (knA v)] w (Post b B R w (doK f 6 v s o)) := by
  obtain ⟨A, c, h1, h2⟩ := h
  have hst : StA w b B s R A c := ⟨h1, h2⟩
  have hblt := h1.lt
  have q0 : w.cell? ⟨b, 2 + v.k, none⟩ = some (.int .u32 (s.cl v.k)) := h1.cell _ _ (cells_cl s A c R v.k hk)
  have q1 : w.cell? ⟨b, 1, none⟩ = some (.int .u32 s.x) := h1.cell 1 _ rfl
  have z0 := h1.frozen (1)
  have i1 : (0 : Int) ≤ (v.k : Int) := by omega
  have i2 : (v.k : Int) < 16 := by omega
  have HST := Lib.hid hst
  clear h1 h2 hst
  unfold knA
  go_enter Try.func125, Try.ntmps125
  go_wp2
  go_region
  all_goals go_wp2
  all_goals go_end0
  all_goals (exact Post.go_ rfl rfl (upd_pre HST.out hbB hB (1) _ (s.setx (s.cl v.k)) rfl rfl ((Below.refl _ _).alloc (by simp [World.setCell]) _).drew))
set_option maxRecDepth 100000 in
set_option maxHeartbeats 2000000 in
theorem m8_any (f : Nat → Nat) (v : IV) (s : VS) (b B : Nat) (R : Value) (w : World) (o : Nat) (h : StB w b B s R) (hbB : b < B) (hB : B ≤ w.heap.size) (hk : v.k < 16) :
    Calls Try.prog 127 #[.pointer (some ⟨b, 0, none⟩), .agg (knA v)] w (Post b B R w (doK f 8 v s o)) := by
  obtain ⟨A, c, h1, h2⟩ := h
  have hst : StA w b B s R A c := ⟨h1, h2⟩
  have hblt := h1.lt
  have q0 : w.cell? ⟨b, 2 + v.k, none⟩ = some (.int .u32 (s.cl v.k)) := h1.cell _ _ (cells_cl s A c R v.k hk)
  have q1 : w.cell? ⟨b, 0, none⟩ = some (.int .u32 s.a) := h1.cell 0 _ rfl
  have z0 := h1.frozen (2 + v.k)
  have i1 : (0 : Int) ≤ (v.k : Int) := by omega
  have i2 : (v.k : Int) < 16 := by omega
  have HST := Lib.hid hst
  clear h1 h2 hst
  unfold knA
  go_enter Try.func127, Try.ntmps127
  go_wp2
  go_region
  all_goals go_wp2
  all_goals go_end0
  all_goals (exact Post.go_ rfl rfl (upd_pre HST.out hbB hB (2 + v.k) _ (s.setc v.k s.a) (cells_setc _ _ _ _ _ _ hk) rfl ((Below.refl _ _).alloc (by simp [World.setCell]) _).drew))
set_option maxRecDepth 100000 in
set_option maxHeartbeats 2000000 in
theorem m9_any (f : Nat → Nat) (v : IV) (s : VS) (b B : Nat) (R : Value) (w : World) (o : Nat) (h : StB w b B s R) (hbB : b < B) (hB : B ≤ w.heap.size) (hk : v.k < 16) :
    Calls Try.prog 128 #[.pointer (some ⟨b, 0, none⟩), .agg (knA v)] w (Post b B R w (doK f 9 v s o)) := by
  obtain ⟨A, c, h1, h2⟩ := h
  have hst : StA w b B s R A c := ⟨h1, h2⟩
  have hblt := h1.lt
  have q0 : w.cell? ⟨b, 2 + v.k, none⟩ = some (.int .u32 (s.cl v.k)) := h1.cell _ _ (cells_cl s A c R v.k hk)
  have q1 : w.cell? ⟨b, 1, none⟩ = some (.int .u32 s.x) := h1.cell 1 _ rfl
  have z0 := h1.frozen (2 + v.k)
  have i1 : (0 : Int) ≤ (v.k : Int) := by omega
  have i2 : (v.k : Int) < 16 := by omega
  have HST := Lib.hid hst
  clear h1 h2 hst
  unfold knA
  go_enter Try.func128, Try.ntmps128
  go_wp2
  go_region
  all_goals go_wp2
  all_goals go_end0
  all_goals (exact Post.go_ rfl rfl (upd_pre HST.out hbB hB (2 + v.k) _ (s.setc v.k s.x) (cells_setc _ _ _ _ _ _ hk) rfl ((Below.refl _ _).alloc (by simp [World.setCell]) _).drew))

set_option maxRecDepth 100000 in
set_option maxHeartbeats 1000000 in
theorem m14_any (f : Nat → Nat) (v : IV) (s : VS) (b B : Nat) (R : Value) (w : World) (o : Nat) (h : StB w b B s R) (hB : B ≤ w.heap.size) :
    Calls Try.prog 133 #[.pointer (some ⟨b, 0, none⟩), .agg (knA v)] w (Post b B R w (doK f 14 v s o)) := by
  have H := Lib.hid h
  unfold knA
  clear h
  go_enter Try.func133, Try.ntmps133
  go_wp2
  exact ⟨rfl, rfl, StB.below H.out ((Below.refl _ _).alloc (Nat.le_refl _) _), Keep.of ((Below.refl _ _).alloc (Nat.le_refl _) _) hB⟩
set_option maxRecDepth 100000 in
set_option maxHeartbeats 1000000 in
theorem m15_any (f : Nat → Nat) (v : IV) (s : VS) (b B : Nat) (R : Value) (w : World) (o : Nat) (h : StB w b B s R) (hB : B ≤ w.heap.size) :
    Calls Try.prog 134 #[.pointer (some ⟨b, 0, none⟩), .agg (knA v)] w (Post b B R w (doK f 15 v s o)) := by
  have H := Lib.hid h
  obtain ⟨A, c, h1, h2⟩ := h
  have hblt := h1.lt
  have q0 : w.cell? ⟨b, 0, none⟩ = some (.int .u32 s.a) := h1.cell 0 _ rfl
  unfold knA
  clear h1 h2
  go_enter Try.func134, Try.ntmps134
  go_wp2
  exact ⟨rfl, rfl, StB.below H.out ((Below.refl _ _).alloc (Nat.le_refl _) _), Keep.of ((Below.refl _ _).alloc (Nat.le_refl _) _) hB⟩
theorem skip_any (s : VS) (b B k : Nat) (R : Value) (w : World) (h : StB w b B s R) (hbB : b < B) (hB : B ≤ w.heap.size) (hk : k < 4294967296) (hn : s.nx < 1000000) :
    Calls Try.prog 161 #[.pointer (some ⟨b, 0, none⟩), .int .u32 k] w (Post b B R w (.go (s.setn (s.nx + k)))) := by
  obtain ⟨A, c, h1, h2⟩ := h
  have hst : StA w b B s R A c := ⟨h1, h2⟩
  have q0 : w.cell? ⟨b, 18, none⟩ = some (.int .i64 s.nx) := h1.cell 18 _ rfl
  have z0 := h1.frozen 18
  have HST := Lib.hid hst
  clear h1 h2 hst
  go_enter Try.func161, Try.ntmps161
  go_wp2
  go_end0
  exact Post.go_ rfl rfl (upd_of HST.out hbB hB (Below.refl _ _) 18 _ (s.setn (s.nx + k)) rfl rfl)
theorem other_any (v : IV) (s : VS) (b B : Nat) (R : Value) (w : World) (h : StB w b B s R) :
    Calls Try.prog 162 #[.pointer (some ⟨b, 0, none⟩), .agg (knA v)] w fun e w' => e = .returned (.int .u32 (oth v s : Nat)) ∧ w' = w.alloc (.cells (knA v) 142) := by
  obtain ⟨A, c, h1, h2⟩ := h
  have hblt := h1.lt
  have q0 : w.cell? ⟨b, 1, none⟩ = some (.int .u32 s.x) := h1.cell 1 _ rfl
  clear h1 h2
  rcases hx : xx v with _ | _
  · have e1 : oth v s = v.k := by unfold oth; rw [hx]; rfl
    rw [e1]
    unfold knA
    rw [hx]
    clear e1 hx
    go_enter Try.func162, Try.ntmps162
    go_wp2
    go_ret
    exact ⟨rfl, rfl⟩
  · have e1 : oth v s = s.x := by unfold oth; rw [hx]; rfl
    rw [e1]
    unfold knA
    rw [hx]
    clear e1 hx
    go_enter Try.func162, Try.ntmps162
    go_wp2
    go_ret
    exact ⟨rfl, rfl⟩
theorem skip_v (s : VS) (b B k : Nat) (R : Value) (w : World) (h : StB w b B s R) (hbB : b < B) (hB : B ≤ w.heap.size) (hk : k < 4294967296) (hn : s.nx < 1000000) (k' : Int) (ek : k' = k) :
    Calls Try.prog 161 #[.pointer (some ⟨b, 0, none⟩), .int .u32 k'] w (Post b B R w (.go (s.setn (s.nx + k)))) := by
  subst ek
  exact skip_any s b B k R w h hbB hB hk hn
/-- A post that was reached behind new blocks. -/
theorem Post.behind {b B : Nat} {R : Value} {w W : World} {r : Res} {e : Ending} {w' : World} (hB : B ≤ w.heap.size) (hW : Below w.heap.size w W) (h : Post b B R W r e w') : Post b B R w r e w' := by
  cases r with
  | go s => exact ⟨h.1, h.2.1, (Keep.of hW hB).trans h.2.2⟩
  | stop n s => exact ⟨h.1, h.2.1, (Keep.of hW hB).trans h.2.2⟩
set_option maxRecDepth 100000 in
set_option maxHeartbeats 1000000 in
theorem m13_any (f : Nat → Nat) (v : IV) (s : VS) (b B : Nat) (R : Value) (w : World) (o : Nat) (h : StB w b B s R) (hbB : b < B) (hB : B ≤ w.heap.size) (hv : v.ok) (hn : s.nx < 1000000) :
    Calls Try.prog 132 #[.pointer (some ⟨b, 0, none⟩), .agg (knA v)] w (Post b B R w (doK f 13 v s o)) := by
  have hW : Below w.heap.size w (w.alloc (.cells (knA v) 142)) := (Below.refl _ _).alloc (Nat.le_refl _) _
  have HK := Lib.hid (skip_v s b B v.k R _ (h.below hW) hbB (Nat.le_trans hB hW.size) hv.2.2.2 hn v.k rfl)
  have HW := Lib.hid hW
  clear h hW hv
  unfold knA at HK HW ⊢
  go_enter Try.func132, Try.ntmps132
  go_wp2_with fail
  refine (HK.out).mono ?_
  rintro e w1 ⟨rfl, h1⟩
  go_wp2
  go_end0
  exact Post.behind hB HW.out ⟨rfl, h1⟩
set_option maxRecDepth 100000 in
set_option maxHeartbeats 1000000 in
theorem branch_any (v : IV) (s : VS) (b B : Nat) (R : Value) (w : World) (q : Bool) (h : StB w b B s R) (hbB : b < B) (hB : B ≤ w.heap.size) (hv : v.ok) (hn : s.nx < 1000000) :
    Calls Try.prog 163 #[.pointer (some ⟨b, 0, none⟩), .agg (knA v), .bool q] w (Post b B R w (.go (s.setn (s.nx + (if q then v.t else v.f))))) := by
  have hW : Below w.heap.size w (w.alloc (.cells (knA v) 142)) := (Below.refl _ _).alloc (Nat.le_refl _) _
  have ht := hv.2.1
  have hf := hv.2.2.1
  have HK := Lib.hid (skip_v s b B (if q then v.t else v.f) R _ (h.below hW) hbB (Nat.le_trans hB hW.size) (by split <;> omega) hn)
  have HW := Lib.hid hW
  clear h hW hv
  unfold knA at HK HW ⊢
  cases q
  all_goals
    go_enter Try.func163, Try.ntmps163
    go_wp2_with fail
    refine (HK.out _ (by first | rfl | (simp; done))).mono ?_
    rintro e w1 ⟨rfl, h1⟩
    go_wp2
    go_end0
    exact Post.behind hB HW.out ⟨rfl, h1⟩
end Go.Proofs.Ytmndolojfdekdaa

/-
  The contracts of the doings of a run that reckon with two numbers.
-/
namespace Go.Proofs.Ytmndolojfdekdaa
open Go.RowKit

theorem and32 (a b : Nat) (ha : a < 4294967296) (hb : b < 4294967296) : bits .and .u32 (a : Int) (b : Int) = ((a &&& b : Nat) : Int) := by
  have hx : a &&& b < 2 ^ 32 := Nat.and_lt_two_pow _ (by omega)
  have h1 : (BitVec.ofInt 32 (a : Int)).toNat = a := by
    rw [BitVec.ofInt_natCast, BitVec.toNat_ofNat]; exact Nat.mod_eq_of_lt (by omega)
  have h2 : (BitVec.ofInt 32 (b : Int)).toNat = b := by
    rw [BitVec.ofInt_natCast, BitVec.toNat_ofNat]; exact Nat.mod_eq_of_lt (by omega)
  show IntKind.u32.wrap ((BitVec.ofInt 32 (a : Int) &&& BitVec.ofInt 32 (b : Int)).toNat : Int) = _
  rw [BitVec.toNat_and, h1, h2, IntKind.wrap_u32]
  omega
theorem or32 (a b : Nat) (ha : a < 4294967296) (hb : b < 4294967296) : bits .or .u32 (a : Int) (b : Int) = ((a ||| b : Nat) : Int) := by
  have hx : a ||| b < 2 ^ 32 := Nat.or_lt_two_pow (by omega) (by omega)
  have h1 : (BitVec.ofInt 32 (a : Int)).toNat = a := by
    rw [BitVec.ofInt_natCast, BitVec.toNat_ofNat]; exact Nat.mod_eq_of_lt (by omega)
  have h2 : (BitVec.ofInt 32 (b : Int)).toNat = b := by
    rw [BitVec.ofInt_natCast, BitVec.toNat_ofNat]; exact Nat.mod_eq_of_lt (by omega)
  show IntKind.u32.wrap ((BitVec.ofInt 32 (a : Int) ||| BitVec.ofInt 32 (b : Int)).toNat : Int) = _
  rw [BitVec.toNat_or, h1, h2, IntKind.wrap_u32]
  omega
theorem xor32 (a b : Nat) (ha : a < 4294967296) (hb : b < 4294967296) : bits .xor .u32 (a : Int) (b : Int) = ((a ^^^ b : Nat) : Int) := by
  have hx : a ^^^ b < 2 ^ 32 := Nat.xor_lt_two_pow (by omega) (by omega)
  have h1 : (BitVec.ofInt 32 (a : Int)).toNat = a := by
    rw [BitVec.ofInt_natCast, BitVec.toNat_ofNat]; exact Nat.mod_eq_of_lt (by omega)
  have h2 : (BitVec.ofInt 32 (b : Int)).toNat = b := by
    rw [BitVec.ofInt_natCast, BitVec.toNat_ofNat]; exact Nat.mod_eq_of_lt (by omega)
  show IntKind.u32.wrap ((BitVec.ofInt 32 (a : Int) ^^^ BitVec.ofInt 32 (b : Int)).toNat : Int) = _
  rw [BitVec.toNat_xor, h1, h2, IntKind.wrap_u32]
  omega
theorem mul32 (a b : Nat) : IntKind.u32.wrap ((a : Int) * (b : Int)) = ((a * b % 4294967296 : Nat) : Int) := by
  rw [IntKind.wrap_u32, Int.natCast_emod, Int.natCast_mul]; rfl
theorem shl32 {P : Program} (a o : Nat) (W : World) : (Op.shift .shl .u32 (a : Int) .u32 ((o : Int).tmod 32)).run P W = .ok (.int .u32 ((a * 2 ^ (o % 32) % 4294967296 : Nat) : Int)) W := by
  have e : (o : Int).tmod 32 = ((o % 32 : Nat) : Int) := by rw [Int.tmod_eq_emod_of_nonneg (by omega)]; omega
  have hb : IntKind.u32.bits = 32 := rfl
  have h1 : min (o % 32) 32 = o % 32 := by omega
  have h2 : ¬ (((o % 32 : Nat) : Int) < 0) := by omega
  rw [e]
  unfold Op.shift
  rw [if_neg h2]
  simp only [hb, Int.toNat_natCast, h1, Sem.run_pure]
  congr 2
theorem shr32 {P : Program} (a o : Nat) (W : World) : (Op.shift .shr .u32 (a : Int) .u32 ((o : Int).tmod 32)).run P W = .ok (.int .u32 ((a / 2 ^ (o % 32) : Nat) : Int)) W := by
  have e : (o : Int).tmod 32 = ((o % 32 : Nat) : Int) := by rw [Int.tmod_eq_emod_of_nonneg (by omega)]; omega
  have hb : IntKind.u32.bits = 32 := rfl
  have h1 : min (o % 32) 32 = o % 32 := by omega
  have h2 : ¬ (((o % 32 : Nat) : Int) < 0) := by omega
  rw [e]
  unfold Op.shift
  rw [if_neg h2]
  simp only [hb, Int.toNat_natCast, h1, Sem.run_pure]
  congr 2
  rw [Int.fdiv_eq_ediv_of_nonneg _ (by exact Int.pow_nonneg (by decide)), Int.natCast_ediv, Int.natCast_pow]; rfl
/-- The end of a doing that stores A. -/
theorem seta_end {w W : World} {b B c : Nat} {s : VS} {R : Value} {A : Option Addr} (h : StA w b B s R A c) (hbB : b < B) (hB : B ≤ w.heap.size) (z : Int) (n : Nat) (hz : z = n) (r : Res) (hr : r = .go (s.seta n))
    (hW : Below w.heap.size (w.setCell ⟨b, 0, none⟩ (.int .u32 z)) W) : Post b B R w r (.returned (.tuple #[])) W := by
  subst hz
  exact Post.go_ hr rfl (upd_pre h hbB hB 0 _ (s.seta n) rfl rfl hW)
end Go.Proofs.Ytmndolojfdekdaa
