/-
  Layer 27: all paths gathered. (paths.gather)
-/
import Derived.Test.YtgndfcjfajnemaaWyi
namespace Go.Proofs.Ytgndfcjfajnemaa
open Go.RowKit Go.Shelf
set_option linter.unusedVariables false

theorem fol_all (x : Bxs) (ho : x.ok) (g : Nat → IV) (n : Nat) (hF : Fmd g n) (hv : ∀ i, i < n → (g i).ok) (hk : ∀ i, i < n → okI (g i) = true) : ∀ m, FolI x g n m
  | 0 => fun i hm hi => by omega
  | m + 1 => fun i hm hi p q d kk b s w L ts A cA T cT S h hp hq hkk hs hts hL => by
    have ih := fol_all x ho g n hF hv hk m
    have hoi := hk i hi
    by_cases h14 : kd (g i) = 14
    · have e : pF g (m + 1) i p q ts s = [⟨ts, s + 1, (g i).k⟩] := by
        show (if kd (g i) = 14 then _ else _) = _
        rw [if_pos h14]
      rw [e] at hL ⊢
      exact fol_ret x ho g n hF hv hk m i hi p q d kk b s w L ts A cA T cT S h hp hq hkk hs hts h14 (by simpa using hL)
    · by_cases hbr : brK (kd (g i)) = true
      · exact fol_br x ho g n hF hv hk m ih i hi p q d kk b s w L ts A cA T cT S h hp hq hkk hs hts hbr hm hL
      · by_cases h13 : kd (g i) = 13
        · exact fol_jump x ho g n hF hv hk m ih i hi p q d kk b s w L ts A cA T cT S h hp hq hkk hs hts h13 hm hL
        · by_cases h1 : kd (g i) = 1
          · exact fol_load x ho g n hF hv hk m ih i hi p q d kk b s w L ts A cA T cT S h hp hq hkk hs hts h1 hm hL
          · have h21 : kd (g i) = 21 := by
              unfold okI mayS at hoi
              simp [h14, hbr, h13, h1] at hoi
              exact hoi.2
            exact fol_and x ho g n hF hv hk m ih i hi p q d kk b s w L ts A cA T cT S h hp hq hkk hs hts h21 hm hL
theorem mk_pths (N : Nat) (hN : N ≤ 5000) (w : World) : ∃ cur, (Instr.makeSlice 25 (.int .i64 0) (.int .i64 (N : Int))).run Try.prog w = .ok (.slice (some ⟨w.heap.size, 0, none⟩) 0 N) (w.alloc (.cells cur 40)) ∧
    ∀ F, OwnC (w.alloc (.cells cur 40)) 0 40 3 (some ⟨w.heap.size, 0, none⟩) 0 N F := by
  obtain ⟨i0, hi0, hz0, hz1, hz2⟩ := info_parts infoPv
  have hr := run_make (P := Try.prog) w 25 40 i0 _ Try.underlying25 hi0 hz0 .i64 .i64 0 N (by omega) (by omega) (by rw [hz2]; omega) (by omega)
  rw [hz1] at hr
  simp only [Int.toNat_natCast] at hr
  refine ⟨_, hr, fun F => ?_⟩
  have hl := World.ownsRow_made (base := 0) (e := 40) (size := 3) w (madeCells (Value.agg #[.slice none 0 0, .int .i64 0, .int .u32 0]).cells (N * 3)) N (Nat.zero_le _) (by unfold maxLen; omega) (size_madeCells _ _)
  unfold OwnC
  simpa using hl
/-- Paths in memory. -/
def Pths (w : World) (A : Option Addr) (c : Nat) (L : List PV) (S : Nat → Option Addr × Nat) : Prop := Cel w w.heap.size 3 A L.length c (pvcell (fun i => L[i]!) S) ∧ ∀ i, i < L.length → Cel w w.heap.size 5 (S i).1 (L[i]!).ts.length (S i).2 (tscell fun j => (L[i]!).ts[j]!)
set_option maxRecDepth 100000 in
set_option maxHeartbeats 8000000 in
theorem gather_any (pb n N : Nat) (g : Nat → IV) (w : World) (hF : Fmd g n) (hpb : pb < w.heap.size) (hP : ∀ i, i < n * 6 → w.cell? ⟨pb, i, none⟩ = some (fcell g i)) (hv : ∀ i, i < n → (g i).ok) (hk : ∀ i, i < n → okI (g i) = true) (hN : N ≤ 5000) (hL : (pF g n 0 0 0 [] 0).length ≤ 100000) :
    Calls Try.prog 20 #[.slice (some ⟨pb, 0, none⟩) n n, .int .i64 (N : Int)] w fun e w' => ∃ A' cA' S', e = .returned (.slice A' (pF g n 0 0 0 [] 0).length cA') ∧ Pths w' A' cA' (pF g n 0 0 0 [] 0) S' ∧ Below w.heap.size w w' := by
  obtain ⟨cur, hmk, hrow⟩ := mk_pths N hN (w.alloc (.cells #[.slice (some ⟨pb, 0, none⟩) n n] 64))
  have hs1 : (w.alloc (.cells #[.slice (some ⟨pb, 0, none⟩) n n] 64)).heap.size = w.heap.size + 1 := by simp
  rw [hs1] at hmk hrow
  have ho : Bxs.ok (⟨w.heap.size, w.heap.size + 1 + 1, w.heap.size + 1 + 1 + 1, w.heap.size + 1 + 1 + 1 + 1, pb⟩ : Bxs) := ⟨by show w.heap.size ≠ w.heap.size + 1 + 1; omega, by show w.heap.size ≠ w.heap.size + 1 + 1 + 1; omega, by show w.heap.size + 1 + 1 + 1 + 1 ≠ w.heap.size + 1 + 1; omega, by show w.heap.size + 1 + 1 + 1 + 1 ≠ w.heap.size + 1 + 1 + 1; omega, by show pb ≠ w.heap.size + 1 + 1; omega, by show pb ≠ w.heap.size + 1 + 1 + 1; omega, by show w.heap.size + 1 + 1 ≠ w.heap.size + 1 + 1 + 1; omega⟩
  have hb5 : Below w.heap.size w (((((w.alloc (.cells #[.slice (some ⟨pb, 0, none⟩) n n] 64)).alloc (.cells cur 40)).alloc (.cells #[.slice (some ⟨w.heap.size + 1, 0, none⟩) 0 N] 25)).alloc (.cells #[.slice none 0 0] 38)).alloc (.cells #[.func (.func 36) #[] #[.pointer (some ⟨w.heap.size, 0, none⟩), .pointer (some ⟨w.heap.size + 1 + 1, 0, none⟩), .pointer (some ⟨w.heap.size + 1 + 1 + 1, 0, none⟩), .pointer (some ⟨w.heap.size + 1 + 1 + 1 + 1, 0, none⟩)]] 94)) := ((((((Below.refl _ _).alloc (Nat.le_refl _) _).alloc (by simp) _).alloc (by simp <;> omega) _).alloc (by simp <;> omega) _).alloc (by simp <;> omega) _)
  have hz5 : (((((w.alloc (.cells #[.slice (some ⟨pb, 0, none⟩) n n] 64)).alloc (.cells cur 40)).alloc (.cells #[.slice (some ⟨w.heap.size + 1, 0, none⟩) 0 N] 25)).alloc (.cells #[.slice none 0 0] 38)).alloc (.cells #[.func (.func 36) #[] #[.pointer (some ⟨w.heap.size, 0, none⟩), .pointer (some ⟨w.heap.size + 1 + 1, 0, none⟩), .pointer (some ⟨w.heap.size + 1 + 1 + 1, 0, none⟩), .pointer (some ⟨w.heap.size + 1 + 1 + 1 + 1, 0, none⟩)]] 94)).heap.size = w.heap.size + 5 := by simp
  have hfm : FM (⟨w.heap.size, w.heap.size + 1 + 1, w.heap.size + 1 + 1 + 1, w.heap.size + 1 + 1 + 1 + 1, pb⟩ : Bxs) g n (((((w.alloc (.cells #[.slice (some ⟨pb, 0, none⟩) n n] 64)).alloc (.cells cur 40)).alloc (.cells #[.slice (some ⟨w.heap.size + 1, 0, none⟩) 0 N] 25)).alloc (.cells #[.slice none 0 0] 38)).alloc (.cells #[.func (.func 36) #[] #[.pointer (some ⟨w.heap.size, 0, none⟩), .pointer (some ⟨w.heap.size + 1 + 1, 0, none⟩), .pointer (some ⟨w.heap.size + 1 + 1 + 1, 0, none⟩), .pointer (some ⟨w.heap.size + 1 + 1 + 1 + 1, 0, none⟩)]] 94)) [] [] (some ⟨w.heap.size + 1, 0, none⟩) N none 0 (fun _ => (none, 0)) := by
    refine ⟨?_, ?_, fun i hi => (hb5.cell (p := ⟨pb, i, none⟩) hpb).trans (hP i hi), ?_, ?_, (((hrow _).alloc _).alloc _).alloc _, fun b e => ?_, ?_, OwnC.nil_, (fun b e => by cases e), (fun i hi => by cases hi)⟩
    · rw [hz5]
      exact ⟨by show w.heap.size < _; omega, by show w.heap.size + 1 + 1 < _; omega, by show w.heap.size + 1 + 1 + 1 < _; omega, by show w.heap.size + 1 + 1 + 1 + 1 < _; omega, by show pb < _; omega⟩
    · show RowC (((((w.alloc (.cells #[.slice (some ⟨pb, 0, none⟩) n n] 64)).alloc (.cells cur 40)).alloc (.cells #[.slice (some ⟨w.heap.size + 1, 0, none⟩) 0 N] 25)).alloc (.cells #[.slice none 0 0] 38)).alloc (.cells #[.func (.func 36) #[] #[.pointer (some ⟨w.heap.size, 0, none⟩), .pointer (some ⟨w.heap.size + 1 + 1, 0, none⟩), .pointer (some ⟨w.heap.size + 1 + 1 + 1, 0, none⟩), .pointer (some ⟨w.heap.size + 1 + 1 + 1 + 1, 0, none⟩)]] 94)) w.heap.size #[.slice (some ⟨pb, 0, none⟩) n n] 64
      exact RowC.alloc (RowC.alloc (RowC.alloc (RowC.alloc (RowC.new w _ _ _ rfl) _) _) _) _
    · show RowC (((((w.alloc (.cells #[.slice (some ⟨pb, 0, none⟩) n n] 64)).alloc (.cells cur 40)).alloc (.cells #[.slice (some ⟨w.heap.size + 1, 0, none⟩) 0 N] 25)).alloc (.cells #[.slice none 0 0] 38)).alloc (.cells #[.func (.func 36) #[] #[.pointer (some ⟨w.heap.size, 0, none⟩), .pointer (some ⟨w.heap.size + 1 + 1, 0, none⟩), .pointer (some ⟨w.heap.size + 1 + 1 + 1, 0, none⟩), .pointer (some ⟨w.heap.size + 1 + 1 + 1 + 1, 0, none⟩)]] 94)) (w.heap.size + 1 + 1 + 1 + 1) _ _
      exact RowC.new _ _ _ _ (by simp)
    · show RowC (((((w.alloc (.cells #[.slice (some ⟨pb, 0, none⟩) n n] 64)).alloc (.cells cur 40)).alloc (.cells #[.slice (some ⟨w.heap.size + 1, 0, none⟩) 0 N] 25)).alloc (.cells #[.slice none 0 0] 38)).alloc (.cells #[.func (.func 36) #[] #[.pointer (some ⟨w.heap.size, 0, none⟩), .pointer (some ⟨w.heap.size + 1 + 1, 0, none⟩), .pointer (some ⟨w.heap.size + 1 + 1 + 1, 0, none⟩), .pointer (some ⟨w.heap.size + 1 + 1 + 1 + 1, 0, none⟩)]] 94)) (w.heap.size + 1 + 1) #[.slice (some ⟨w.heap.size + 1, 0, none⟩) 0 N] 25
      exact RowC.alloc (RowC.alloc (RowC.new _ _ _ _ (by simp)) _) _
    · have e2 : b = w.heap.size + 1 := Option.some.inj e
      subst e2
      exact ⟨by show w.heap.size + 1 ≠ w.heap.size; omega, by show w.heap.size + 1 ≠ w.heap.size + 1 + 1; omega, by show w.heap.size + 1 ≠ w.heap.size + 1 + 1 + 1; omega, by show w.heap.size + 1 ≠ w.heap.size + 1 + 1 + 1 + 1; omega, by show w.heap.size + 1 ≠ pb; omega⟩
    · show RowC (((((w.alloc (.cells #[.slice (some ⟨pb, 0, none⟩) n n] 64)).alloc (.cells cur 40)).alloc (.cells #[.slice (some ⟨w.heap.size + 1, 0, none⟩) 0 N] 25)).alloc (.cells #[.slice none 0 0] 38)).alloc (.cells #[.func (.func 36) #[] #[.pointer (some ⟨w.heap.size, 0, none⟩), .pointer (some ⟨w.heap.size + 1 + 1, 0, none⟩), .pointer (some ⟨w.heap.size + 1 + 1 + 1, 0, none⟩), .pointer (some ⟨w.heap.size + 1 + 1 + 1 + 1, 0, none⟩)]] 94)) (w.heap.size + 1 + 1 + 1) #[.slice none 0 0] 38
      exact RowC.alloc (RowC.new _ _ _ _ (by simp)) _
  have hR := fol_all (⟨w.heap.size, w.heap.size + 1 + 1, w.heap.size + 1 + 1 + 1, w.heap.size + 1 + 1 + 1 + 1, pb⟩ : Bxs) ho g n hF hv hk n 0 (by omega) hF.pos 0 0 0 0 false 0 (((((w.alloc (.cells #[.slice (some ⟨pb, 0, none⟩) n n] 64)).alloc (.cells cur 40)).alloc (.cells #[.slice (some ⟨w.heap.size + 1, 0, none⟩) 0 N] 25)).alloc (.cells #[.slice none 0 0] 38)).alloc (.cells #[.func (.func 36) #[] #[.pointer (some ⟨w.heap.size, 0, none⟩), .pointer (some ⟨w.heap.size + 1 + 1, 0, none⟩), .pointer (some ⟨w.heap.size + 1 + 1 + 1, 0, none⟩), .pointer (some ⟨w.heap.size + 1 + 1 + 1 + 1, 0, none⟩)]] 94)) [] [] (some ⟨w.heap.size + 1, 0, none⟩) N none 0 (fun _ => (none, 0)) hfm (by decide) (by decide) (by decide) (by have := hF.le; omega) (by have := hF.le; simp; omega) (by simpa using hL)
  rw [List.nil_append] at hR
  have HR := Lib.hid hR
  have HB5 := Lib.hid hb5
  have HZ5 := Lib.hid hz5
  clear hR hfm hb5 hz5 hrow hs1
  go_enter Try.func20, Try.ntmps20
  go_wp2_with fail
  refine HR.out.mono ?_
  rintro e w' ⟨rfl, A', cA', T', cT', S', hG⟩
  have al0 : w'.cell? ⟨w.heap.size + 1 + 1, 0, none⟩ = some (.slice A' (pF g n 0 0 0 [] 0).length cA') := RowAt.cell hG.fm.al 0 _ rfl
  have HP := Lib.hid (⟨hG.fm.alo.cel, fun i hi => (hG.fm.cl i hi).1⟩ : Pths w' A' cA' (pF g n 0 0 0 [] 0) S')
  have HBE : Hid (Below w.heap.size w w') := Lib.hid (HB5.out.trans ⟨hG.gk.os, hG.gk.tape, hG.gk.output, hG.gk.size, fun k hk2 => hG.gk.block k (by rw [HZ5.out]; omega) (by show k ≠ w.heap.size + 1 + 1; omega) (by show k ≠ w.heap.size + 1 + 1 + 1; omega) (fun e => by have e2 : k = w.heap.size + 1 := Option.some.inj e; omega) (fun e => by cases e)⟩)
  clear hG HR HB5
  go_wp2
  go_ret
  exact ⟨_, _, _, rfl, HP.out, HBE.out⟩
end Go.Proofs.Ytgndfcjfajnemaa
