/-
  Where a record came from does not count; of no ABI but i386 do arguments (of any table that may be, of 40 rows).
-/
import Derived.Test.YtlninlempefjcaaRows
import Derived.Test.YtlninlempefjcaaMd
import Derived.BigQuiet
import Derived.Deep.QuietTactic
import Derived.Deep.RegionHeld3
import Derived.Deep.CutRange
import Derived.ProofKit
import Derived.OpenShut
import Derived.ShutString
import Derived.ChangeOld
import Derived.Below
import Derived.Lib.SmallJoins
namespace Go.Proofs.Ytlninlempefjcaa
open Go.RowKit
set_option linter.unusedVariables false

theorem bAl {a w : World} (h : Below a.heap.size a w) (o : Obj) : Below a.heap.size a (w.alloc o) := h.alloc h.size o
theorem bTr {a w w' : World} (h : Below a.heap.size a w) (h2 : Below w.heap.size w w') : Below a.heap.size a w' := h.trans (h2.mono h.size)
theorem row4 {W : World} {X : Nat} {a b c d : Value} {T : TypeId} (h : RowC W X #[a, b, c, d] T) : (W.cell? ⟨X, 0, none⟩ = some a ∧ W.cell? ⟨X, 1, none⟩ = some b ∧ W.cell? ⟨X, 2, none⟩ = some c ∧ W.cell? ⟨X, 3, none⟩ = some d) ∧ W.frozen? ⟨X, 0, none⟩ = false ∧ W.frozen? ⟨X, 1, none⟩ = false ∧ W.frozen? ⟨X, 2, none⟩ = false ∧ W.frozen? ⟨X, 3, none⟩ = false :=
  ⟨⟨h.cell 0 _ rfl, h.cell 1 _ rfl, h.cell 2 _ rfl, h.cell 3 _ rfl⟩, h.frozen 0, h.frozen 1, h.frozen 2, h.frozen 3⟩
theorem drewC {W : World} {b : Nat} {cs : Array Value} {T : TypeId} (h : RowC W b cs T) : RowC W.drew b cs T := h
/-- Two records of one call. -/
theorem call_same {T : Nat → SR} {n : Nat} {r r' : RV} {sm : Bool} {ab : Nat} {nm : ByteArray} {mu : Bool} {sm' : Bool} {ab' : Nat} {nm' : ByteArray} {mu' : Bool} (hn : r'.n = r.n) (ha : r'.a = r.a) (h : CallP T n r sm ab nm mu) (hq : ab = 2 → r'.q 0 = r.q 0) (h' : CallP T n r' sm' ab' nm' mu') :
    sm' = sm ∧ ab' = ab ∧ nm' = nm ∧ mu' = mu := by
  unfold CallP at h'
  rw [hn, ha] at h'
  rcases h with ⟨h1, h2, h3, h4, h5⟩ | ⟨h1, h2, h3, h4⟩ <;> rcases h' with ⟨k1, k2, k3, k4, k5⟩ | ⟨k1, k2, k3, k4⟩
  · exact ⟨k2.trans h2.symm, k3.trans h3.symm, k4.trans h4.symm, k5.trans h5.symm⟩
  · rw [h1] at k1; cases k1
  · rw [h1] at k1; cases k1
  · have e : ab' = ab := k3.trans h3.symm
    subst e
    refine ⟨k2.trans h2.symm, rfl, ?_⟩
    rcases h4 with ⟨a1, a2, a3, a4⟩ | ⟨a1, a2, a3⟩ <;> rcases k4 with ⟨b1, b2, b3, b4⟩ | ⟨b1, b2, b3⟩
    · rw [hq a1] at b4
      exact ⟨NameOf.uniq b4 a4, b3.trans a3.symm⟩
    · exact absurd ⟨a1, a2⟩ b1
    · exact absurd ⟨b1, b2⟩ a1
    · exact ⟨NameOf.uniq b3 a3, b2.trans a2.symm⟩

set_option maxRecDepth 100000 in
set_option maxHeartbeats 32000000 in
theorem walk_MuxBlind {w0 : World} (A : Option Addr) (n cap : Nat) (T : Nat → SR) (r : RV) (x : Nat) (f : Nat → Nat) (ht : TbA w0 A n T) (hr : r.ok) (hx : x < 18446744073709551616) (hf : ∀ i, f i < 18446744073709551616) :
    Calls Try.prog 6 #[.agg #[.slice A n cap, .int .u32 r.n, .int .u32 r.a, .int .u64 r.p, .int .u64 (r.q 0), .int .u64 (r.q 1), .int .u64 (r.q 2), .int .u64 (r.q 3), .int .u64 (r.q 4), .int .u64 (r.q 5), .int .u64 x, .int .u64 (f 0), .int .u64 (f 1), .int .u64 (f 2), .int .u64 (f 3), .int .u64 (f 4), .int .u64 (f 5)]] w0 fun e w' => e = .returned (.bool true) ∧ Below w0.heap.size w0 w' := by
  obtain ⟨U, hU⟩ : ∃ U, w0.alloc (.cells #[.slice A n cap, .int .u32 r.n, .int .u32 r.a, .int .u64 r.p, .int .u64 (r.q 0), .int .u64 (r.q 1), .int .u64 (r.q 2), .int .u64 (r.q 3), .int .u64 (r.q 4), .int .u64 (r.q 5), .int .u64 x, .int .u64 (f 0), .int .u64 (f 1), .int .u64 (f 2), .int .u64 (f 3), .int .u64 (f 4), .int .u64 (f 5)] 66) = U := ⟨_, rfl⟩
  have ru : RowC U w0.heap.size #[.slice A n cap, .int .u32 r.n, .int .u32 r.a, .int .u64 r.p, .int .u64 (r.q 0), .int .u64 (r.q 1), .int .u64 (r.q 2), .int .u64 (r.q 3), .int .u64 (r.q 4), .int .u64 (r.q 5), .int .u64 x, .int .u64 (f 0), .int .u64 (f 1), .int .u64 (f 2), .int .u64 (f 3), .int .u64 (f 4), .int .u64 (f 5)] 66 := by rw [← hU]; exact RowC.new _ _ _ _ rfl
  have hbU : Below w0.heap.size w0 U := by rw [← hU]; exact (Below.refl _ _).alloc (Nat.le_refl _) _
  have HT := Lib.hid (ht.below hbU (Nat.le_refl _))
  have HT0 := Lib.hid ht
  have HRU := Lib.hid ru
  have HBU := Lib.hid hbU
  have HU := Lib.hid hU
  have HR := Lib.hid hr
  have HXL := Lib.hid hx
  have HFL := Lib.hid hf
  have HAW := Lib.hid fun W => awake12_any W
  clear hU hbU ru ht hr hx hf
  go_enter Try.func6, Try.ntmps6
  go_upto_region 1 with fail
  rw [HU.out]
  go_cut [3, 4, 5, 6] from 8 to 15 (fun s3 s4 s5 s6 wx => ∃ (X Y : Nat), s3 = .slice A n cap ∧ s4 = .pointer (some ⟨X, 0, none⟩) ∧ s5 = .int .u64 x ∧ s6 = .pointer (some ⟨Y, 0, none⟩) ∧ RowC wx X #[.int .u32 r.n, .int .u32 r.a, .int .u64 r.p, .int .u64 (r.q 0), .int .u64 (r.q 1), .int .u64 (r.q 2), .int .u64 (r.q 3), .int .u64 (r.q 4), .int .u64 (r.q 5)] 51 ∧ RowC wx Y #[.int .u64 (f 0), .int .u64 (f 1), .int .u64 (f 2), .int .u64 (f 3), .int .u64 (f 4), .int .u64 (f 5)] 49 ∧ X ≠ Y ∧ w0.heap.size ≤ X ∧ TbA wx A n T ∧ Below w0.heap.size w0 wx)
  case first =>
    have hlu := HRU.out.lt
    have hk0 : Below U.heap.size U U.drew := (Below.refl _ U).drew
    have HS : Hid (∀ W, Below U.heap.size U W → W.cell? ⟨w0.heap.size, 0, none⟩ = some (.slice A n cap) ∧ W.cell? ⟨w0.heap.size, 1, none⟩ = some (.int .u32 r.n) ∧ W.cell? ⟨w0.heap.size, 2, none⟩ = some (.int .u32 r.a) ∧ W.cell? ⟨w0.heap.size, 3, none⟩ = some (.int .u64 r.p) ∧ W.cell? ⟨w0.heap.size, 4, none⟩ = some (.int .u64 (r.q 0)) ∧ W.cell? ⟨w0.heap.size, 5, none⟩ = some (.int .u64 (r.q 1)) ∧ W.cell? ⟨w0.heap.size, 6, none⟩ = some (.int .u64 (r.q 2)) ∧ W.cell? ⟨w0.heap.size, 7, none⟩ = some (.int .u64 (r.q 3)) ∧ W.cell? ⟨w0.heap.size, 8, none⟩ = some (.int .u64 (r.q 4)) ∧ W.cell? ⟨w0.heap.size, 9, none⟩ = some (.int .u64 (r.q 5)) ∧ W.cell? ⟨w0.heap.size, 10, none⟩ = some (.int .u64 x) ∧ W.cell? ⟨w0.heap.size, 11, none⟩ = some (.int .u64 (f 0)) ∧ W.cell? ⟨w0.heap.size, 12, none⟩ = some (.int .u64 (f 1)) ∧ W.cell? ⟨w0.heap.size, 13, none⟩ = some (.int .u64 (f 2)) ∧ W.cell? ⟨w0.heap.size, 14, none⟩ = some (.int .u64 (f 3)) ∧ W.cell? ⟨w0.heap.size, 15, none⟩ = some (.int .u64 (f 4)) ∧ W.cell? ⟨w0.heap.size, 16, none⟩ = some (.int .u64 (f 5))) := Lib.hid fun W hW => ⟨(HRU.out.below hW hlu).cell 0 _ rfl, (HRU.out.below hW hlu).cell 1 _ rfl, (HRU.out.below hW hlu).cell 2 _ rfl, (HRU.out.below hW hlu).cell 3 _ rfl, (HRU.out.below hW hlu).cell 4 _ rfl, (HRU.out.below hW hlu).cell 5 _ rfl, (HRU.out.below hW hlu).cell 6 _ rfl, (HRU.out.below hW hlu).cell 7 _ rfl, (HRU.out.below hW hlu).cell 8 _ rfl, (HRU.out.below hW hlu).cell 9 _ rfl, (HRU.out.below hW hlu).cell 10 _ rfl, (HRU.out.below hW hlu).cell 11 _ rfl, (HRU.out.below hW hlu).cell 12 _ rfl, (HRU.out.below hW hlu).cell 13 _ rfl, (HRU.out.below hW hlu).cell 14 _ rfl, (HRU.out.below hW hlu).cell 15 _ rfl, (HRU.out.below hW hlu).cell 16 _ rfl⟩
    go_region_held3 (fun w' => w'.cell? ⟨w0.heap.size, 0, none⟩ = some (.slice A n cap) ∧ w'.cell? ⟨w0.heap.size, 1, none⟩ = some (.int .u32 r.n) ∧ w'.cell? ⟨w0.heap.size, 2, none⟩ = some (.int .u32 r.a) ∧ w'.cell? ⟨w0.heap.size, 3, none⟩ = some (.int .u64 r.p) ∧ w'.cell? ⟨w0.heap.size, 4, none⟩ = some (.int .u64 (r.q 0)) ∧ w'.cell? ⟨w0.heap.size, 5, none⟩ = some (.int .u64 (r.q 1)) ∧ w'.cell? ⟨w0.heap.size, 6, none⟩ = some (.int .u64 (r.q 2)) ∧ w'.cell? ⟨w0.heap.size, 7, none⟩ = some (.int .u64 (r.q 3)) ∧ w'.cell? ⟨w0.heap.size, 8, none⟩ = some (.int .u64 (r.q 4)) ∧ w'.cell? ⟨w0.heap.size, 9, none⟩ = some (.int .u64 (r.q 5)) ∧ w'.cell? ⟨w0.heap.size, 10, none⟩ = some (.int .u64 x) ∧ w'.cell? ⟨w0.heap.size, 11, none⟩ = some (.int .u64 (f 0)) ∧ w'.cell? ⟨w0.heap.size, 12, none⟩ = some (.int .u64 (f 1)) ∧ w'.cell? ⟨w0.heap.size, 13, none⟩ = some (.int .u64 (f 2)) ∧ w'.cell? ⟨w0.heap.size, 14, none⟩ = some (.int .u64 (f 3)) ∧ w'.cell? ⟨w0.heap.size, 15, none⟩ = some (.int .u64 (f 4)) ∧ w'.cell? ⟨w0.heap.size, 16, none⟩ = some (.int .u64 (f 5)))
      (exact HS.out _ (by repeat (first | assumption | exact Below.refl _ _ | apply Below.drew | apply bAl)))
      (fail)
    all_goals go_wp2_with fail
    all_goals go_meet
    all_goals
      have hE : ∀ (O1 O2 : Obj), TbA ((U.alloc O1).alloc O2).drew A n T ∧ Below w0.heap.size w0 ((U.alloc O1).alloc O2).drew := fun O1 O2 => by
        have hB : Below U.heap.size U ((U.alloc O1).alloc O2).drew := (bAl (bAl (Below.refl _ U) O1) O2).drew
        exact ⟨HT.out.below hB (Nat.le_refl _), HBU.out.trans (hB.mono HBU.out.size)⟩
      have hsz := HBU.out.size
      refine ⟨_, _, rfl, rfl, rfl, rfl, ?_, ?_, ?_, ?_, hE _ _⟩
      · first | exact drewC ((RowC.new _ _ _ _ rfl).alloc _) | exact drewC (RowC.new _ _ _ _ (by simp))
      · first | exact drewC ((RowC.new _ _ _ _ rfl).alloc _) | exact drewC (RowC.new _ _ _ _ (by simp))
      · omega
      · omega
  case rest =>
    obtain ⟨X, Y, rfl, rfl, rfl, rfl, hx, hy, hxy, hx0, ht, hB⟩ := hcut
    have HLT := Lib.hid (light12_any A n cap T wc ht)
    have HX := Lib.hid hx
    have HY := Lib.hid hy
    have HT' := Lib.hid ht
    have HB := Lib.hid hB
    have HX0 := Lib.hid hx0
    have HXY := Lib.hid hxy
    clear HT HRU HBU HU hx hy ht hB hx0 hxy
    go_wp2_with fail
    refine HLT.out.mono ?_
    rintro e w1 ⟨h, hB1⟩
    have HX1 := Lib.hid (HX.out.below hB1 HX.out.lt)
    have HY1 := Lib.hid (HY.out.below hB1 HY.out.lt)
    have HT1 := Lib.hid (HT'.out.below hB1 (Nat.le_refl _))
    have HB1 := Lib.hid (HB.out.trans (hB1.mono HB.out.size))
    clear hB1 HX HY HT' HB HLT
    rcases h with ⟨hok, rfl⟩ | ⟨hok, rfl⟩
    case inr =>
      clear hok
      go_wp2
      go_ret
      exact ⟨rfl, HB1.out⟩
    have h40 := hok.1
    clear hok
    go_upto_region 4 with fail
    go_cut [7] from 19 to 23 (fun s wx => ∃ (C : Nat) (sm : Bool) (ab : Nat) (nm : ByteArray) (mu : Bool), s = .pointer (some ⟨C, 0, none⟩) ∧ CallP T n r sm ab nm mu ∧ RowC wx C #[.bool sm, .int .i64 (ab : Nat), .string nm, .bool mu] 53 ∧ X < C ∧ RowC wx X #[.int .u32 r.n, .int .u32 r.a, .int .u64 r.p, .int .u64 (r.q 0), .int .u64 (r.q 1), .int .u64 (r.q 2), .int .u64 (r.q 3), .int .u64 (r.q 4), .int .u64 (r.q 5)] 51 ∧ RowC wx Y #[.int .u64 (f 0), .int .u64 (f 1), .int .u64 (f 2), .int .u64 (f 3), .int .u64 (f 4), .int .u64 (f 5)] 49 ∧ TbA wx A n T ∧ Below w0.heap.size w0 wx)
    case first =>
      have hlu := HX1.out.lt
      have hk0 : Below w1.heap.size w1 w1.drew := (Below.refl _ w1).drew
      have HS : Hid (∀ W, Below w1.heap.size w1 W → W.cell? ⟨X, 0, none⟩ = some (.int .u32 r.n) ∧ W.cell? ⟨X, 1, none⟩ = some (.int .u32 r.a) ∧ W.cell? ⟨X, 2, none⟩ = some (.int .u64 r.p) ∧ W.cell? ⟨X, 3, none⟩ = some (.int .u64 (r.q 0)) ∧ W.cell? ⟨X, 4, none⟩ = some (.int .u64 (r.q 1)) ∧ W.cell? ⟨X, 5, none⟩ = some (.int .u64 (r.q 2)) ∧ W.cell? ⟨X, 6, none⟩ = some (.int .u64 (r.q 3)) ∧ W.cell? ⟨X, 7, none⟩ = some (.int .u64 (r.q 4)) ∧ W.cell? ⟨X, 8, none⟩ = some (.int .u64 (r.q 5))) := Lib.hid fun W hW => ⟨(HX1.out.below hW hlu).cell 0 _ rfl, (HX1.out.below hW hlu).cell 1 _ rfl, (HX1.out.below hW hlu).cell 2 _ rfl, (HX1.out.below hW hlu).cell 3 _ rfl, (HX1.out.below hW hlu).cell 4 _ rfl, (HX1.out.below hW hlu).cell 5 _ rfl, (HX1.out.below hW hlu).cell 6 _ rfl, (HX1.out.below hW hlu).cell 7 _ rfl, (HX1.out.below hW hlu).cell 8 _ rfl⟩
      have HOF := Lib.hid fun W (hW : Below w1.heap.size w1 W) => of12_any A n cap T W (by omega) (HT1.out.below hW (Nat.le_refl _))
      have HRC : Hid (∀ W, Calls Try.prog 23 #[.agg #[.int .u32 r.n, .int .u32 r.a, .int .u64 r.p, .int .u64 (r.q 0), .int .u64 (r.q 1), .int .u64 (r.q 2), .int .u64 (r.q 3), .int .u64 (r.q 4), .int .u64 (r.q 5)]] W fun e w' => e = .returned (.agg #[.int .u32 r.n, .int .u32 r.a, .int .u64 r.p, .int .u64 (r.q 0), .int .u64 (r.q 1), .int .u64 (r.q 2), .int .u64 (r.q 3), .int .u64 (r.q 4), .int .u64 (r.q 5)]) ∧ Below W.heap.size W w') := Lib.hid fun W => record12_any r W
      have HMX : Hid (∀ A' c' W, TbA W A' n T → Calls Try.prog 21 #[.slice A' n c', .agg #[.int .u32 r.n, .int .u32 r.a, .int .u64 r.p, .int .u64 (r.q 0), .int .u64 (r.q 1), .int .u64 (r.q 2), .int .u64 (r.q 3), .int .u64 (r.q 4), .int .u64 (r.q 5)]] W fun e w' => ∃ sm ab nm mu, CallP T n r sm ab nm mu ∧ e = .returned (.agg #[.bool sm, .int .i64 (ab : Nat), .string nm, .bool mu]) ∧ Below W.heap.size W w') := Lib.hid fun A' c' W h => of_mux A' n c' T r HR.out W (by omega) h
      go_region_held3 (fun w' => w'.cell? ⟨X, 0, none⟩ = some (.int .u32 r.n) ∧ w'.cell? ⟨X, 1, none⟩ = some (.int .u32 r.a) ∧ w'.cell? ⟨X, 2, none⟩ = some (.int .u64 r.p) ∧ w'.cell? ⟨X, 3, none⟩ = some (.int .u64 (r.q 0)) ∧ w'.cell? ⟨X, 4, none⟩ = some (.int .u64 (r.q 1)) ∧ w'.cell? ⟨X, 5, none⟩ = some (.int .u64 (r.q 2)) ∧ w'.cell? ⟨X, 6, none⟩ = some (.int .u64 (r.q 3)) ∧ w'.cell? ⟨X, 7, none⟩ = some (.int .u64 (r.q 4)) ∧ w'.cell? ⟨X, 8, none⟩ = some (.int .u64 (r.q 5)))
        (exact HS.out _ (by repeat (first | assumption | exact Below.refl _ _ | apply Below.drew | apply bAl | (refine Below.setCell ?_ (by first | exact Nat.le_refl _ | exact hkR.size | exact hkF.size | exact hkM.size) _))))
        (first
          | (go_at_call 22
             (with_reducible refine (HOF.out _ (by repeat (first | assumption | exact Below.refl _ _ | apply Below.drew | apply bAl | (refine Below.setCell ?_ (by first | exact Nat.le_refl _ | exact hkR.size | exact hkF.size | exact hkM.size) _)))).mono ?_)
             rintro e w2 ⟨A2, c2, rfl, hown2, hB2⟩
             have hkF : Below w1.heap.size w1 w2 := bTr (by repeat (first | assumption | exact Below.refl _ _ | apply Below.drew | apply bAl | (refine Below.setCell ?_ (by first | exact Nat.le_refl _ | exact hkR.size | exact hkF.size | exact hkM.size) _))) hB2
             have HTF := Lib.hid (own_TbA hown2)
             try (have hx : RowC w2 w1.heap.size call0 53 := (hB2.block w1.heap.size (by show _ < (World.alloc _ _).heap.size; simp)).trans (heap_alloc_last w1 _)
                  have HX := Lib.hid hx
                  obtain ⟨⟨x0, x1, x2, x3⟩, y0, y1, y2, y3⟩ := row4 hx
                  clear hx)
             try (have hx : RowC w2 w3.heap.size call0 53 := (hB2.block w3.heap.size (by show _ < (World.alloc _ _).heap.size; simp)).trans (heap_alloc_last w3 _)
                  have HX := Lib.hid hx
                  obtain ⟨⟨x0, x1, x2, x3⟩, y0, y1, y2, y3⟩ := row4 hx
                  clear hx)
             try (have hx := HX.out.below hB2 HX.out.lt
                  have HX := Lib.hid hx
                  obtain ⟨⟨x0, x1, x2, x3⟩, y0, y1, y2, y3⟩ := row4 hx
                  clear hx)
             clear hown2)
          | (go_at_call 23
             (with_reducible refine (HRC.out _).mono ?_)
             rintro e w3 ⟨rfl, hB3⟩
             have hkR : Below w1.heap.size w1 w3 := bTr (by repeat (first | assumption | exact Below.refl _ _ | apply Below.drew | apply bAl | (refine Below.setCell ?_ (by first | exact Nat.le_refl _ | exact hkR.size | exact hkF.size | exact hkM.size) _))) hB3
             try (have hx : RowC w3 w1.heap.size call0 53 := (hB3.block w1.heap.size (by show _ < (World.alloc _ _).heap.size; simp)).trans (heap_alloc_last w1 _)
                  have HX := Lib.hid hx
                  obtain ⟨⟨x0, x1, x2, x3⟩, y0, y1, y2, y3⟩ := row4 hx
                  clear hx)
             try (have hx : RowC w3 w2.heap.size call0 53 := (hB3.block w2.heap.size (by show _ < (World.alloc _ _).heap.size; simp)).trans (heap_alloc_last w2 _)
                  have HX := Lib.hid hx
                  obtain ⟨⟨x0, x1, x2, x3⟩, y0, y1, y2, y3⟩ := row4 hx
                  clear hx)
             try (have hx := HX.out.below hB3 HX.out.lt
                  have HX := Lib.hid hx
                  obtain ⟨⟨x0, x1, x2, x3⟩, y0, y1, y2, y3⟩ := row4 hx
                  clear hx)
             have hnil : True := trivial)
          | (go_at_call 21
             (with_reducible refine (HMX.out _ _ _ (by first | exact HTF.out | exact HTF.out.below hB3 (Nat.le_refl _) | exact HTF.out.below (bAl (Below.refl _ _) _) (Nat.le_refl _) | exact (HTF.out.below hB3 (Nat.le_refl _)).below (bAl (Below.refl _ _) _) (Nat.le_refl _) | exact HTF.out.below (bTr (bAl (Below.refl _ _) _) hB3) (Nat.le_refl _))).mono ?_)
             rintro e w4 ⟨sm, ab, nm, mu, hP, rfl, hB4⟩
             have hkM : Below w1.heap.size w1 w4 := bTr (by repeat (first | assumption | exact Below.refl _ _ | apply Below.drew | apply bAl | (refine Below.setCell ?_ (by first | exact Nat.le_refl _ | exact hkR.size | exact hkF.size | exact hkM.size) _))) hB4
             try (have hx : RowC w4 w2.heap.size call0 53 := (hB4.block w2.heap.size (by show _ < (World.alloc _ _).heap.size; simp)).trans (heap_alloc_last w2 _)
                  have HX := Lib.hid hx
                  obtain ⟨⟨x0, x1, x2, x3⟩, y0, y1, y2, y3⟩ := row4 hx
                  clear hx)
             try (have hx : RowC w4 w3.heap.size call0 53 := (hB4.block w3.heap.size (by show _ < (World.alloc _ _).heap.size; simp)).trans (heap_alloc_last w3 _)
                  have HX := Lib.hid hx
                  obtain ⟨⟨x0, x1, x2, x3⟩, y0, y1, y2, y3⟩ := row4 hx
                  clear hx)
             try (have hx : RowC w4 w1.heap.size call0 53 := (hB4.block w1.heap.size (by show _ < (World.alloc _ _).heap.size; simp)).trans (heap_alloc_last w1 _)
                  have HX := Lib.hid hx
                  obtain ⟨⟨x0, x1, x2, x3⟩, y0, y1, y2, y3⟩ := row4 hx
                  clear hx)
             try (have hx := HX.out.below hB4 HX.out.lt
                  have HX := Lib.hid hx
                  obtain ⟨⟨x0, x1, x2, x3⟩, y0, y1, y2, y3⟩ := row4 hx
                  clear hx)
             have hnil : True := trivial))
      all_goals go_wp2_with fail
      all_goals go_meet
      all_goals
        have hE := fun W (hW : Below w1.heap.size w1 W) => And.intro (HX1.out.below hW hlu) (And.intro (HY1.out.below hW HY1.out.lt) (And.intro (HT1.out.below hW (Nat.le_refl _)) (HB1.out.trans (hW.mono HB1.out.size))))
        refine ⟨_, sm, ab, nm, mu, rfl, hP, ?_, ?_, hE _ (by repeat (first | assumption | exact Below.refl _ _ | apply Below.drew | apply bAl | (refine Below.setCell ?_ (by first | exact Nat.le_refl _ | exact hkR.size | exact hkF.size | exact hkM.size) _)))⟩
        · first | exact ((((HX.out.set 0 _).set 1 _).set 2 _).set 3 _) | (with_reducible exact RowC.new _ _ _ _ rfl)
        · first | exact hlu | exact Nat.lt_of_lt_of_le hlu hkF.size | exact Nat.lt_of_lt_of_le hlu hkR.size | exact Nat.lt_of_lt_of_le hlu hkM.size
    case rest =>
      obtain ⟨C, sm, ab, nm, mu, rfl, hP, hc, hxc, hx, hy, ht, hB⟩ := hcut
      have HCC := Lib.hid hc
      have HXX := Lib.hid hx
      have HYY := Lib.hid hy
      have HTT := Lib.hid ht
      have HBB := Lib.hid hB
      have HP := Lib.hid hP
      have HXC := Lib.hid hxc
      have d2 := hx.cell 2 (.int .u64 r.p) rfl
      have e2 := hx.frozen 2
      clear hc hx hy ht hB hP hxc HX1 HY1 HT1 HB1
      go_upto_region 6 with fail
      have HB1' : Hid (Below w0.heap.size w0 (wc.setCell ⟨X, 2, none⟩ (.int .u64 x))) := Lib.hid (HBB.out.setCell HX0.out _)
      have HX1' : Hid (RowC (wc.setCell ⟨X, 2, none⟩ (.int .u64 x)) X #[.int .u32 r.n, .int .u32 r.a, .int .u64 x, .int .u64 (r.q 0), .int .u64 (r.q 1), .int .u64 (r.q 2), .int .u64 (r.q 3), .int .u64 (r.q 4), .int .u64 (r.q 5)] 51) := Lib.hid (HXX.out.set 2 (.int .u64 x))
      have HC1' : Hid (RowC (wc.setCell ⟨X, 2, none⟩ (.int .u64 x)) C #[.bool sm, .int .i64 (ab : Nat), .string nm, .bool mu] 53) := Lib.hid (HCC.out.setOther 2 _ (by have := HXC.out; omega))
      have HY1' : Hid (RowC (wc.setCell ⟨X, 2, none⟩ (.int .u64 x)) Y #[.int .u64 (f 0), .int .u64 (f 1), .int .u64 (f 2), .int .u64 (f 3), .int .u64 (f 4), .int .u64 (f 5)] 49) := Lib.hid (HYY.out.setOther 2 _ (fun h => HXY.out h.symm))
      generalize wc.setCell ⟨X, 2, none⟩ (.int .u64 x) = Z1 at *
      clear HCC HXX HYY HTT HBB d2 e2
      have c1 := HC1'.out.cell 1 (.int .i64 (ab : Nat)) rfl
      by_cases hab : ab = 2
      · have f1 : ((ab : Int) != 2) = false := by simp [hab]
        have f2 : (ab != 2) = false := by simp [hab]
        have HSAME : Hid (∀ {sm' : Bool} {ab' : Nat} {nm' : ByteArray} {mu' : Bool}, CallP T n ⟨r.n, r.a, x, r.q⟩ sm' ab' nm' mu' → sm' = sm ∧ ab' = ab ∧ nm' = nm ∧ mu' = mu) := Lib.hid fun h => call_same (r := r) (r' := ⟨r.n, r.a, x, r.q⟩) rfl rfl HP.out (fun _ => rfl) h
        have HRR : Hid (RV.ok ⟨r.n, r.a, x, r.q⟩) := Lib.hid ⟨HR.out.1, HR.out.2.1, HXL.out, HR.out.2.2.2⟩
        have HTZ := Lib.hid (HT0.out.below HB1'.out (Nat.le_refl _))
        have HXZ := HX1'
        have HCZ := HC1'
        have HBZ := HB1'
        clear hab HX1' HC1' HB1' HY1' HP
        go_upto_region 8 with fail
        clear c1 f1 f2
        have hk0 : Below Z1.heap.size Z1 Z1.drew := (Below.refl _ Z1).drew
        have HS : Hid (∀ W, Below Z1.heap.size Z1 W → W.cell? ⟨X, 0, none⟩ = some (.int .u32 r.n) ∧ W.cell? ⟨X, 1, none⟩ = some (.int .u32 r.a) ∧ W.cell? ⟨X, 2, none⟩ = some (.int .u64 x) ∧ W.cell? ⟨X, 3, none⟩ = some (.int .u64 (r.q 0)) ∧ W.cell? ⟨X, 4, none⟩ = some (.int .u64 (r.q 1)) ∧ W.cell? ⟨X, 5, none⟩ = some (.int .u64 (r.q 2)) ∧ W.cell? ⟨X, 6, none⟩ = some (.int .u64 (r.q 3)) ∧ W.cell? ⟨X, 7, none⟩ = some (.int .u64 (r.q 4)) ∧ W.cell? ⟨X, 8, none⟩ = some (.int .u64 (r.q 5)) ∧ W.cell? ⟨C, 0, none⟩ = some (.bool sm) ∧ W.cell? ⟨C, 1, none⟩ = some (.int .i64 (ab : Nat)) ∧ W.cell? ⟨C, 2, none⟩ = some (.string nm) ∧ W.cell? ⟨C, 3, none⟩ = some (.bool mu)) := Lib.hid fun W hW => ⟨(HXZ.out.below hW HXZ.out.lt).cell 0 _ rfl, (HXZ.out.below hW HXZ.out.lt).cell 1 _ rfl, (HXZ.out.below hW HXZ.out.lt).cell 2 _ rfl, (HXZ.out.below hW HXZ.out.lt).cell 3 _ rfl, (HXZ.out.below hW HXZ.out.lt).cell 4 _ rfl, (HXZ.out.below hW HXZ.out.lt).cell 5 _ rfl, (HXZ.out.below hW HXZ.out.lt).cell 6 _ rfl, (HXZ.out.below hW HXZ.out.lt).cell 7 _ rfl, (HXZ.out.below hW HXZ.out.lt).cell 8 _ rfl, (HCZ.out.below hW HCZ.out.lt).cell 0 _ rfl, (HCZ.out.below hW HCZ.out.lt).cell 1 _ rfl, (HCZ.out.below hW HCZ.out.lt).cell 2 _ rfl, (HCZ.out.below hW HCZ.out.lt).cell 3 _ rfl⟩
        have HOF := Lib.hid fun W (hW : Below Z1.heap.size Z1 W) => of12_any A n cap T W (by omega) (HTZ.out.below hW (Nat.le_refl _))
        have HRC : Hid (∀ W, Calls Try.prog 23 #[.agg #[.int .u32 r.n, .int .u32 r.a, .int .u64 x, .int .u64 (r.q 0), .int .u64 (r.q 1), .int .u64 (r.q 2), .int .u64 (r.q 3), .int .u64 (r.q 4), .int .u64 (r.q 5)]] W fun e w' => e = .returned (.agg #[.int .u32 r.n, .int .u32 r.a, .int .u64 x, .int .u64 (r.q 0), .int .u64 (r.q 1), .int .u64 (r.q 2), .int .u64 (r.q 3), .int .u64 (r.q 4), .int .u64 (r.q 5)]) ∧ Below W.heap.size W w') := Lib.hid fun W => record12_any ⟨r.n, r.a, x, r.q⟩ W
        have HMX : Hid (∀ A' c' W, TbA W A' n T → Calls Try.prog 21 #[.slice A' n c', .agg #[.int .u32 r.n, .int .u32 r.a, .int .u64 x, .int .u64 (r.q 0), .int .u64 (r.q 1), .int .u64 (r.q 2), .int .u64 (r.q 3), .int .u64 (r.q 4), .int .u64 (r.q 5)]] W fun e w' => e = .returned (.agg #[.bool sm, .int .i64 (ab : Nat), .string nm, .bool mu]) ∧ Below W.heap.size W w') := Lib.hid fun A' c' W h => by
          refine Calls.mono (of_mux A' n c' T ⟨r.n, r.a, x, r.q⟩ HRR.out W (by omega) h) ?_
          rintro e w' ⟨sm', ab', nm', mu', hc, rfl, hB⟩
          obtain ⟨rfl, rfl, rfl, rfl⟩ := HSAME.out hc
          exact ⟨rfl, hB⟩
        have e53 : ∀ W, (binOp .eql 53 (.agg #[.bool sm, .int .i64 (ab : Nat), .string nm, .bool mu]) (.agg #[.bool sm, .int .i64 (ab : Nat), .string nm, .bool mu])).run Try.prog W = .ok (.bool true) W := by
          intro W
          go_simp
        go_region_held3 (fun w' => w'.cell? ⟨X, 0, none⟩ = some (.int .u32 r.n) ∧ w'.cell? ⟨X, 1, none⟩ = some (.int .u32 r.a) ∧ w'.cell? ⟨X, 2, none⟩ = some (.int .u64 x) ∧ w'.cell? ⟨X, 3, none⟩ = some (.int .u64 (r.q 0)) ∧ w'.cell? ⟨X, 4, none⟩ = some (.int .u64 (r.q 1)) ∧ w'.cell? ⟨X, 5, none⟩ = some (.int .u64 (r.q 2)) ∧ w'.cell? ⟨X, 6, none⟩ = some (.int .u64 (r.q 3)) ∧ w'.cell? ⟨X, 7, none⟩ = some (.int .u64 (r.q 4)) ∧ w'.cell? ⟨X, 8, none⟩ = some (.int .u64 (r.q 5)) ∧ w'.cell? ⟨C, 0, none⟩ = some (.bool sm) ∧ w'.cell? ⟨C, 1, none⟩ = some (.int .i64 (ab : Nat)) ∧ w'.cell? ⟨C, 2, none⟩ = some (.string nm) ∧ w'.cell? ⟨C, 3, none⟩ = some (.bool mu))
          (exact HS.out _ (by repeat (first | assumption | exact Below.refl _ _ | apply Below.drew | apply bAl)))
          (first
            | (go_at_call 22
               (with_reducible refine (HOF.out _ (by repeat (first | assumption | exact Below.refl _ _ | apply Below.drew | apply bAl))).mono ?_)
               rintro e w2 ⟨A2, c2, rfl, hown2, hB2⟩
               have hkF : Below Z1.heap.size Z1 w2 := bTr (by repeat (first | assumption | exact Below.refl _ _ | apply Below.drew | apply bAl)) hB2
               have HTF := Lib.hid (own_TbA hown2)
               clear hown2)
            | (go_at_call 23
               (with_reducible refine (HRC.out _).mono ?_)
               rintro e w3 ⟨rfl, hB3⟩
               have hkR : Below Z1.heap.size Z1 w3 := bTr (by repeat (first | assumption | exact Below.refl _ _ | apply Below.drew | apply bAl)) hB3)
            | (go_at_call 21
               (with_reducible refine (HMX.out _ _ _ (by first | exact HTF.out | exact HTF.out.below hB3 (Nat.le_refl _))).mono ?_)
               rintro e w4 ⟨rfl, hB4⟩
               have hkM : Below Z1.heap.size Z1 w4 := bTr (by repeat (first | assumption | exact Below.refl _ _ | apply Below.drew | apply bAl)) hB4)
            | (go_at_call 25
               (with_reducible refine (HAW.out _).mono ?_)
               rintro e w5 ⟨rfl, hB5⟩
               have hkA : Below Z1.heap.size Z1 w5 := bTr (by repeat (first | assumption | exact Below.refl _ _ | apply Below.drew | apply bAl)) hB5))
        all_goals go_wp2
        all_goals go_ret
        all_goals exact ⟨rfl, HBZ.out.trans (hkA.mono HBZ.out.size)⟩
      · have f1 : ((ab : Int) != 2) = true := by simp; omega
        have f2 : (ab != 2) = true := by simp [hab]
        have HSAME : Hid (∀ {sm' : Bool} {ab' : Nat} {nm' : ByteArray} {mu' : Bool}, CallP T n ⟨r.n, r.a, x, f⟩ sm' ab' nm' mu' → sm' = sm ∧ ab' = ab ∧ nm' = nm ∧ mu' = mu) := Lib.hid fun h => call_same (r := r) (r' := ⟨r.n, r.a, x, f⟩) rfl rfl HP.out (fun h => absurd h hab) h
        have HRR : Hid (RV.ok ⟨r.n, r.a, x, f⟩) := Lib.hid ⟨HR.out.1, HR.out.2.1, HXL.out, HFL.out⟩
        have y0 := HY1'.out.cell 0 (.int .u64 (f 0)) rfl
        have y1 := HY1'.out.cell 1 (.int .u64 (f 1)) rfl
        have y2 := HY1'.out.cell 2 (.int .u64 (f 2)) rfl
        have y3 := HY1'.out.cell 3 (.int .u64 (f 3)) rfl
        have y4 := HY1'.out.cell 4 (.int .u64 (f 4)) rfl
        have y5 := HY1'.out.cell 5 (.int .u64 (f 5)) rfl
        have x3 := HX1'.out.cell 3 (.int .u64 (r.q 0)) rfl
        have z3 := HX1'.out.frozen 3
        have x4 := HX1'.out.cell 4 (.int .u64 (r.q 1)) rfl
        have z4 := HX1'.out.frozen 4
        have x5 := HX1'.out.cell 5 (.int .u64 (r.q 2)) rfl
        have z5 := HX1'.out.frozen 5
        have x6 := HX1'.out.cell 6 (.int .u64 (r.q 3)) rfl
        have z6 := HX1'.out.frozen 6
        have x7 := HX1'.out.cell 7 (.int .u64 (r.q 4)) rfl
        have z7 := HX1'.out.frozen 7
        have x8 := HX1'.out.cell 8 (.int .u64 (r.q 5)) rfl
        have z8 := HX1'.out.frozen 8
        go_upto_region 8 with fail
        have hxz : RowC ((((((Z1.setCell ⟨X, 3, none⟩ (.int .u64 (f 0))).setCell ⟨X, 4, none⟩ (.int .u64 (f 1))).setCell ⟨X, 5, none⟩ (.int .u64 (f 2))).setCell ⟨X, 6, none⟩ (.int .u64 (f 3))).setCell ⟨X, 7, none⟩ (.int .u64 (f 4))).setCell ⟨X, 8, none⟩ (.int .u64 (f 5))) X #[.int .u32 r.n, .int .u32 r.a, .int .u64 x, .int .u64 (f 0), .int .u64 (f 1), .int .u64 (f 2), .int .u64 (f 3), .int .u64 (f 4), .int .u64 (f 5)] 51 := (((((HX1'.out.set 3 _).set 4 _).set 5 _).set 6 _).set 7 _).set 8 _
        have hcz : RowC ((((((Z1.setCell ⟨X, 3, none⟩ (.int .u64 (f 0))).setCell ⟨X, 4, none⟩ (.int .u64 (f 1))).setCell ⟨X, 5, none⟩ (.int .u64 (f 2))).setCell ⟨X, 6, none⟩ (.int .u64 (f 3))).setCell ⟨X, 7, none⟩ (.int .u64 (f 4))).setCell ⟨X, 8, none⟩ (.int .u64 (f 5))) C #[.bool sm, .int .i64 (ab : Nat), .string nm, .bool mu] 53 := by
          have hn : C ≠ X := by have := HXC.out; omega
          exact (((((HC1'.out.setOther 3 _ hn).setOther 4 _ hn).setOther 5 _ hn).setOther 6 _ hn).setOther 7 _ hn).setOther 8 _ hn
        have hbz : Below w0.heap.size w0 ((((((Z1.setCell ⟨X, 3, none⟩ (.int .u64 (f 0))).setCell ⟨X, 4, none⟩ (.int .u64 (f 1))).setCell ⟨X, 5, none⟩ (.int .u64 (f 2))).setCell ⟨X, 6, none⟩ (.int .u64 (f 3))).setCell ⟨X, 7, none⟩ (.int .u64 (f 4))).setCell ⟨X, 8, none⟩ (.int .u64 (f 5))) := (((((HB1'.out.setCell HX0.out _).setCell HX0.out _).setCell HX0.out _).setCell HX0.out _).setCell HX0.out _).setCell HX0.out _
        have HXZ := Lib.hid hxz
        have HCZ := Lib.hid hcz
        have HBZ := Lib.hid hbz
        have HTZ := Lib.hid (HT0.out.below hbz (Nat.le_refl _))
        clear hxz hcz hbz HX1' HC1' HB1' HY1' HP c1 f1 f2 hab y0 y1 y2 y3 y4 y5 x3 z3 x4 z4 x5 z5 x6 z6 x7 z7 x8 z8
        generalize ((((((Z1.setCell ⟨X, 3, none⟩ (.int .u64 (f 0))).setCell ⟨X, 4, none⟩ (.int .u64 (f 1))).setCell ⟨X, 5, none⟩ (.int .u64 (f 2))).setCell ⟨X, 6, none⟩ (.int .u64 (f 3))).setCell ⟨X, 7, none⟩ (.int .u64 (f 4))).setCell ⟨X, 8, none⟩ (.int .u64 (f 5))) = Z at *
        have hk0 : Below Z.heap.size Z Z.drew := (Below.refl _ Z).drew
        have HS : Hid (∀ W, Below Z.heap.size Z W → W.cell? ⟨X, 0, none⟩ = some (.int .u32 r.n) ∧ W.cell? ⟨X, 1, none⟩ = some (.int .u32 r.a) ∧ W.cell? ⟨X, 2, none⟩ = some (.int .u64 x) ∧ W.cell? ⟨X, 3, none⟩ = some (.int .u64 (f 0)) ∧ W.cell? ⟨X, 4, none⟩ = some (.int .u64 (f 1)) ∧ W.cell? ⟨X, 5, none⟩ = some (.int .u64 (f 2)) ∧ W.cell? ⟨X, 6, none⟩ = some (.int .u64 (f 3)) ∧ W.cell? ⟨X, 7, none⟩ = some (.int .u64 (f 4)) ∧ W.cell? ⟨X, 8, none⟩ = some (.int .u64 (f 5)) ∧ W.cell? ⟨C, 0, none⟩ = some (.bool sm) ∧ W.cell? ⟨C, 1, none⟩ = some (.int .i64 (ab : Nat)) ∧ W.cell? ⟨C, 2, none⟩ = some (.string nm) ∧ W.cell? ⟨C, 3, none⟩ = some (.bool mu)) := Lib.hid fun W hW => ⟨(HXZ.out.below hW HXZ.out.lt).cell 0 _ rfl, (HXZ.out.below hW HXZ.out.lt).cell 1 _ rfl, (HXZ.out.below hW HXZ.out.lt).cell 2 _ rfl, (HXZ.out.below hW HXZ.out.lt).cell 3 _ rfl, (HXZ.out.below hW HXZ.out.lt).cell 4 _ rfl, (HXZ.out.below hW HXZ.out.lt).cell 5 _ rfl, (HXZ.out.below hW HXZ.out.lt).cell 6 _ rfl, (HXZ.out.below hW HXZ.out.lt).cell 7 _ rfl, (HXZ.out.below hW HXZ.out.lt).cell 8 _ rfl, (HCZ.out.below hW HCZ.out.lt).cell 0 _ rfl, (HCZ.out.below hW HCZ.out.lt).cell 1 _ rfl, (HCZ.out.below hW HCZ.out.lt).cell 2 _ rfl, (HCZ.out.below hW HCZ.out.lt).cell 3 _ rfl⟩
        have HOF := Lib.hid fun W (hW : Below Z.heap.size Z W) => of12_any A n cap T W (by omega) (HTZ.out.below hW (Nat.le_refl _))
        have HRC : Hid (∀ W, Calls Try.prog 23 #[.agg #[.int .u32 r.n, .int .u32 r.a, .int .u64 x, .int .u64 (f 0), .int .u64 (f 1), .int .u64 (f 2), .int .u64 (f 3), .int .u64 (f 4), .int .u64 (f 5)]] W fun e w' => e = .returned (.agg #[.int .u32 r.n, .int .u32 r.a, .int .u64 x, .int .u64 (f 0), .int .u64 (f 1), .int .u64 (f 2), .int .u64 (f 3), .int .u64 (f 4), .int .u64 (f 5)]) ∧ Below W.heap.size W w') := Lib.hid fun W => record12_any ⟨r.n, r.a, x, f⟩ W
        have HMX : Hid (∀ A' c' W, TbA W A' n T → Calls Try.prog 21 #[.slice A' n c', .agg #[.int .u32 r.n, .int .u32 r.a, .int .u64 x, .int .u64 (f 0), .int .u64 (f 1), .int .u64 (f 2), .int .u64 (f 3), .int .u64 (f 4), .int .u64 (f 5)]] W fun e w' => e = .returned (.agg #[.bool sm, .int .i64 (ab : Nat), .string nm, .bool mu]) ∧ Below W.heap.size W w') := Lib.hid fun A' c' W h => by
          refine Calls.mono (of_mux A' n c' T ⟨r.n, r.a, x, f⟩ HRR.out W (by omega) h) ?_
          rintro e w' ⟨sm', ab', nm', mu', hc, rfl, hB⟩
          obtain ⟨rfl, rfl, rfl, rfl⟩ := HSAME.out hc
          exact ⟨rfl, hB⟩
        have e53 : ∀ W, (binOp .eql 53 (.agg #[.bool sm, .int .i64 (ab : Nat), .string nm, .bool mu]) (.agg #[.bool sm, .int .i64 (ab : Nat), .string nm, .bool mu])).run Try.prog W = .ok (.bool true) W := by
          intro W
          go_simp
        go_region_held3 (fun w' => w'.cell? ⟨X, 0, none⟩ = some (.int .u32 r.n) ∧ w'.cell? ⟨X, 1, none⟩ = some (.int .u32 r.a) ∧ w'.cell? ⟨X, 2, none⟩ = some (.int .u64 x) ∧ w'.cell? ⟨X, 3, none⟩ = some (.int .u64 (f 0)) ∧ w'.cell? ⟨X, 4, none⟩ = some (.int .u64 (f 1)) ∧ w'.cell? ⟨X, 5, none⟩ = some (.int .u64 (f 2)) ∧ w'.cell? ⟨X, 6, none⟩ = some (.int .u64 (f 3)) ∧ w'.cell? ⟨X, 7, none⟩ = some (.int .u64 (f 4)) ∧ w'.cell? ⟨X, 8, none⟩ = some (.int .u64 (f 5)) ∧ w'.cell? ⟨C, 0, none⟩ = some (.bool sm) ∧ w'.cell? ⟨C, 1, none⟩ = some (.int .i64 (ab : Nat)) ∧ w'.cell? ⟨C, 2, none⟩ = some (.string nm) ∧ w'.cell? ⟨C, 3, none⟩ = some (.bool mu))
          (exact HS.out _ (by repeat (first | assumption | exact Below.refl _ _ | apply Below.drew | apply bAl)))
          (first
            | (go_at_call 22
               (with_reducible refine (HOF.out _ (by repeat (first | assumption | exact Below.refl _ _ | apply Below.drew | apply bAl))).mono ?_)
               rintro e w2 ⟨A2, c2, rfl, hown2, hB2⟩
               have hkF : Below Z.heap.size Z w2 := bTr (by repeat (first | assumption | exact Below.refl _ _ | apply Below.drew | apply bAl)) hB2
               have HTF := Lib.hid (own_TbA hown2)
               clear hown2)
            | (go_at_call 23
               (with_reducible refine (HRC.out _).mono ?_)
               rintro e w3 ⟨rfl, hB3⟩
               have hkR : Below Z.heap.size Z w3 := bTr (by repeat (first | assumption | exact Below.refl _ _ | apply Below.drew | apply bAl)) hB3)
            | (go_at_call 21
               (with_reducible refine (HMX.out _ _ _ (by first | exact HTF.out | exact HTF.out.below hB3 (Nat.le_refl _))).mono ?_)
               rintro e w4 ⟨rfl, hB4⟩
               have hkM : Below Z.heap.size Z w4 := bTr (by repeat (first | assumption | exact Below.refl _ _ | apply Below.drew | apply bAl)) hB4)
            | (go_at_call 25
               (with_reducible refine (HAW.out _).mono ?_)
               rintro e w5 ⟨rfl, hB5⟩
               have hkA : Below Z.heap.size Z w5 := bTr (by repeat (first | assumption | exact Below.refl _ _ | apply Below.drew | apply bAl)) hB5))
        all_goals go_wp2
        all_goals go_ret
        all_goals exact ⟨rfl, HBZ.out.trans (hkA.mono HBZ.out.size)⟩

namespace muxBlindRow
open Go.ChangeShapes Go.WideShapes Go.ChangeAt Go.RowKit Go.Joins
open Go.ChangeMaps (open_string shut_string)
set_option linter.unusedVariables false
theorem own : ownKnob Try.prog.godebug = none := by kernel_rfl
theorem laidOut : laidOutB Try.prog = true := by kernel_rfl
set_option maxRecDepth 100000 in
theorem lifted (os : Os) (started : os.Started) (H : Type) (enc : TypeId × Value → H) :
    ReturnsInHanded {} Try.checked os 6 .any (Rows.muxBlindSpec.pre6 enc Try.prog Try.f6 Rows.muxBlindRow.domain false) (Rows.muxBlindSpec.post enc Try.prog Try.f6 false true false false) := by
  refine returnsInHanded_of_change (C := Try.checked) own started (by kernel_rfl) Try.func6
    (ChangeSpec.witness6 (enc := enc) (C := Try.checked) false ⟨#[], #[.agg #[.slice none 0 0, .int .u32 0, .int .u32 0, .int .u64 0, .int .u64 0, .int .u64 0, .int .u64 0, .int .u64 0, .int .u64 0, .int .u64 0, .int .u64 0, .int .u64 0, .int .u64 0, .int .u64 0, .int .u64 0, .int .u64 0, .int .u64 0]], []⟩ 8 (by kernel_rfl) (by kernel_rfl) (by kernel_rfl) (by kernel_rfl)) ?_
  intro W base args ds gs before hval0 hW hcnd _
  have hval : ∀ (j : Nat) t v, Try.f6.params[j]? = some t → args[j]? = some v → Value.okWide Try.prog W .any base t v := hval0
  have hW' := hW
  obtain ⟨p, q, hA0, hV, rfl, hfz, hnd⟩ := hW
  have hA : DataW.TrodAll enc Try.prog W 0 (fun _ => true) true Try.f6.params.toList args.toList ds p := hA0
  rw [Try.params6] at hA hval
  obtain ⟨v0, vs0, d0, ds0, p0, q0, hargs, rfl, rfl, h0, r0⟩ := trodAll_cons hA
  obtain ⟨rfl, rfl, rfl⟩ := trodAll_nil r0
  obtain rfl : args = #[v0] := by cases args; simp_all
  obtain ⟨rfl, rfl⟩ := trodVars_none hV
  have k0 := h0
  have lt0 : ∀ x ∈ p0, x.block < W.heap.size := by obtain ⟨m, hm⟩ := k0; exact DataW.trod_lt m _ _ _ hm
  obtain ⟨bA0, bn0, bc0, bT0, bg0, bp0, bf0, rfl, bt0, bo0, bq0, br0⟩ := open_blind (hval 0 66 v0 rfl rfl) h0
  clear hA0 hval0
  refine (walk_MuxBlind (w0 := W) bA0 bn0 bc0 bT0 bg0 bp0 bf0 bt0 bo0 bq0 br0).mono fun e W' ⟨he, bel⟩ => ?_
  subst he
  exact ⟨_, rfl, _, _, _, [], _, [], hW', trodAll_mk1 (shut_bool Try.underlying4 _), (trodAll_cons_mk (Below.trod laidOut (by kernel_rfl) (of_decide_eq_true (by kernel_rfl)) k0 bel lt0) trodAll_mk0), rfl, bel.frame _, fun h => by cases h⟩

theorem over : Rows.muxBlindRow.holds Try.pinned (OpenSpec.ofChange Rows.muxBlindSpec) :=
  OpenClaim.holds_of_wide 6 Try.f6 rfl rfl rfl rfl rfl rfl rfl ⟨rfl, rfl, rfl, rfl, rfl⟩ rfl rfl rfl rfl rfl (by kernel_rfl) Try.func6 (by kernel_rfl)
    (of_decide_eq_true (by kernel_rfl)) (by unfold Func.isWrapper; first | (rw [if_pos (by decide +kernel)]; kernel_rfl) | (rw [if_neg (by decide +kernel)]; exact ⟨rfl, rfl⟩))
    (fun os started H enc _ => lifted os started H enc)
end muxBlindRow

theorem muxBlind_proved : Rows.MuxBlindSaid := muxBlindRow.over
#print axioms muxBlind_proved
end Go.Proofs.Ytlninlempefjcaa
