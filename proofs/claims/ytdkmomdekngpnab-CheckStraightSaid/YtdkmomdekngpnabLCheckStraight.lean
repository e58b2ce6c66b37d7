/-
  The law CheckStraight holds for every input: of a program without jumps a cell may be loaded just if something was stored in it ahead. No condition (the law itself lets rows of more than 60 instructions go).
-/
import Derived.Test.YtdkmomdekngpnabKu
import Derived.Test.YtdkmomdekngpnabIf
import Derived.Test.YtdkmomdekngpnabRows
import Derived.Below
import Derived.ChangeOld
import Derived.ShutString
import Derived.Lib.SmallJoins
import Derived.OpenShut
import Derived.ProofKit
import Derived.WalkKit
namespace Go.Proofs.Ytdkmomdekngpnab
open Go.RowKit

/-- Which cells are stored, as the law keeps it. -/
def St (w : World) (B : Nat) (f : Nat → Nat) (k : Nat) : Prop := B < w.heap.size ∧ ∀ c, c < 16 → w.cell? ⟨B, c, none⟩ = some (.bool (sb f c k)) ∧ w.frozen? ⟨B, c, none⟩ = false
theorem St.below {w w' : World} {B N : Nat} {f : Nat → Nat} {k : Nat} (h : St w B f k) (hb : Below N w w') (hB : B < N) : St w' B f k :=
  ⟨Nat.lt_of_lt_of_le h.1 hb.size, fun c hc => ⟨(hb.cell (p := ⟨B, c, none⟩) hB).trans (h.2 c hc).1, (hb.frozen (p := ⟨B, c, none⟩) hB).trans (h.2 c hc).2⟩⟩

theorem own_other {w : World} {base n c S i : Nat} {E : TypeId} {A : Option Addr} {F : Nat → Value} {v : Value} (h : OwnC w base E 4 A n c F) (hS : S < base) : OwnC (w.setCell ⟨S, i, none⟩ v) base E 4 A n c F := by
  obtain ⟨h1, h2⟩ := h
  refine ⟨h1, ?_⟩
  rcases h2 with h2 | ⟨gg, cap, cur, hv, hg, hh, r⟩
  · exact Or.inl h2
  · exact Or.inr ⟨gg, cap, cur, hv, hg, (Below.heap_setCell w ⟨S, i, none⟩ v gg (by show gg ≠ S; omega)).trans hh, r⟩
theorem st_set {w : World} {B c : Nat} {s : Bool} (_hB : B < w.heap.size) (h : w.cell? ⟨B, c, none⟩ = some (.bool s) ∧ w.frozen? ⟨B, c, none⟩ = false) (j : Nat) :
    (w.setCell ⟨B, j, none⟩ (.bool true)).cell? ⟨B, c, none⟩ = some (.bool (s || (j == c))) ∧ (w.setCell ⟨B, j, none⟩ (.bool true)).frozen? ⟨B, c, none⟩ = false := by
  refine ⟨?_, by rw [World.frozen?_setCell]; exact h.2⟩
  by_cases e : j = c
  · subst e
    rw [World.cell?_setCell_same w ⟨B, j, none⟩ (.bool true) h.1]; simp
  · have hj : (j == c) = false := by simpa using e
    rw [World.cell?_setCell_other w ⟨B, j, none⟩ ⟨B, c, none⟩ (.bool true) (by intro x; exact e (congrArg Addr.off x)), h.1, hj, Bool.or_false]

theorem one_gs (w : World) (f : Nat → Nat) (k x : Nat) (hx : f k = x) (code : Int) (hc : code = (codeOf x : Nat)) (E : TypeId) (H : Nat) (hH : w.heap.size = H) :
    Cel (w.alloc (.cells #[.int .u16 code, .int .u8 0, .int .u8 0, .int .u32 ((x : Int) % 16)] E)) (H + 1) 4 (some ⟨H, 0, none⟩) 1 1 (icell fun _ => gs f k) := by
  subst hH
  exact Cel.mk_ (by omega) (by decide) (by decide) (fun i hi => by
    subst hc hx
    match i, hi with
    | 0, _ => simp [icell, gs]
    | 1, _ => simp [icell, gs]
    | 2, _ => simp [icell, gs]
    | 3, _ => simp [icell, gs])
theorem gs_cat (f : Nat → Nat) (k : Nat) : ∀ i, i < (k + 1) * 4 → catC (k * 4) (icell (gs f)) (icell fun _ => gs f k) i = icell (gs f) i := icell_cat (gs f) k
theorem gS_cat (f : Nat → Nat) (n : Nat) : ∀ i, i < (n + 1) * 4 → catC (n * 4) (icell (gs f)) (icell fun _ => ⟨22, 0, 0, 0⟩) i = icell (gS f n) i := fun i hi => by
  unfold catC
  by_cases h : i < n * 4
  · rw [if_pos h]
    have e : gS f n (i / 4) = gs f (i / 4) := by unfold gS; rw [if_pos (by omega)]
    unfold icell
    rw [e]
  · rw [if_neg h]
    have e : gS f n (i / 4) = ⟨22, 0, 0, 0⟩ := by unfold gS; rw [if_neg (by omega)]
    have h4 : (i - n * 4) % 4 = i % 4 := by omega
    unfold icell
    rw [e, h4]
theorem gS_ok (f : Nat → Nat) (n i : Nat) : (gS f n i).ok := by
  have hm : f i % 16 < 16 := Nat.mod_lt _ (by decide)
  unfold gS
  split
  · have hc : codeOf (f i) ≤ 97 := by unfold codeOf; repeat' split
                                      all_goals omega
    exact ⟨by show codeOf (f i) < 65536; omega, by show 0 < 256; decide, by show 0 < 256; decide, by show f i % 16 < 4294967296; omega⟩
  · exact ⟨by show 22 < 65536; decide, by show 0 < 256; decide, by show 0 < 256; decide, by show 0 < 4294967296; decide⟩
/-- The first load of a cell that nothing was stored in, as the law keeps it. -/
def Bad (f : Nat → Nat) (k : Nat) (z : Int) : Prop := (z = -1 ∧ ∀ i, i < k → badB f i = false) ∨ ∃ q : Nat, q < k ∧ z = q ∧ badB f q = true ∧ ∀ i, i < q → badB f i = false
theorem Bad.skip {f : Nat → Nat} {k : Nat} {z : Int} (h : Bad f k z) (hb : badB f k = false) : Bad f (k + 1) z := by
  rcases h with ⟨h1, h2⟩ | ⟨q, h1, h2⟩
  · refine .inl ⟨h1, fun i hi => ?_⟩
    by_cases e : i = k
    · rw [e]; exact hb
    · exact h2 i (by omega)
  · exact .inr ⟨q, by omega, h2⟩
theorem Bad.keep {f : Nat → Nat} {k : Nat} {z : Int} (h : Bad f k z) (hz : ¬ z < 0) : Bad f (k + 1) z := by
  rcases h with ⟨h1, _⟩ | ⟨q, h1, h2⟩
  · omega
  · exact .inr ⟨q, by omega, h2⟩
theorem Bad.now {f : Nat → Nat} {k : Nat} {z : Int} (h : Bad f k z) (hz : z < 0) (hb : badB f k = true) : Bad f (k + 1) (k : Int) := by
  rcases h with ⟨_, h2⟩ | ⟨q, _, h2, _⟩
  · exact .inr ⟨k, by omega, rfl, hb, h2⟩
  · omega

set_option maxRecDepth 100000 in
set_option maxHeartbeats 8000000 in
theorem straight_go {w0 : World} (A : Option Addr) (n c : Nat) (f : Nat → Nat) (hr : Byt w0 w0.heap.size A n c f) (hn : n ≤ 60) :
    Calls Try.prog 8 #[.slice A n c] w0 fun e w' => e = .returned (.bool true) ∧ Below w0.heap.size w0 w' := by
  have HR := Lib.hid hr
  clear hr
  go_enter Try.func8, Try.ntmps8
  go_wp2
  go_loopw [3, 5, 6] (fun s b i wr => ∃ (k : Nat) (A' : Option Addr) (c' : Nat) (z : Int), k ≤ n ∧ i = .int .i64 k ∧ s = .slice A' k c' ∧ b = .int .i64 z ∧ OwnC wr (w0.heap.size + 1) 46 4 A' k c' (icell (gs f)) ∧ Below w0.heap.size w0 wr ∧ St wr w0.heap.size f k ∧ Bad f k z)
    (fun _ _ i _ => n - (intOf i).toNat)
  case atStart =>
    have ho := fun E => World.ownsRow_lit (base := w0.heap.size) (e := E) (size := 1) w0 #[.bool false, .bool false, .bool false, .bool false, .bool false, .bool false, .bool false, .bool false, .bool false, .bool false, .bool false, .bool false, .bool false, .bool false, .bool false, .bool false] 16 (Nat.le_refl _) (by decide) rfl
    refine ⟨0, none, 0, -1, Nat.zero_le _, rfl, rfl, rfl, OwnC.nil_, (Below.refl _ _).alloc (Nat.le_refl _) _, ⟨by simp, fun c hc => ⟨?_, World.ownsRow.frozenAt (ho _) c⟩⟩, .inl ⟨rfl, fun i hi => by omega⟩⟩
    rw [World.cell?_alloc_at _ _ _ _ rfl]
    match c, hc with
    | 0, _ | 1, _ | 2, _ | 3, _ | 4, _ | 5, _ | 6, _ | 7, _ | 8, _ | 9, _ | 10, _ | 11, _ | 12, _ | 13, _ | 14, _ | 15, _ => rfl
    | c + 16, h => omega
  case round =>
    obtain ⟨k, A', c', z, hk, rfl, rfl, rfl, hown, hB, hst, hz⟩ := hrel
    have hs := hB.size
    have HO := Lib.hid hown
    have HST := Lib.hid hst
    have HZ := Lib.hid hz
    clear hown hst hz
    by_cases hlt : k < n
    · obtain ⟨b, off, rfl, hb, hc⟩ := (HR.out.below hB).at_ (by omega)
      obtain ⟨q0, q1⟩ := hc k hlt
      clear hc
      obtain ⟨x, hx⟩ : ∃ x, f k = x := ⟨_, rfl⟩
      have HX := Lib.hid hx
      rw [hx] at q0 q1
      have q0' : ∀ o, (wr.alloc o).cell? ⟨b, off + k, none⟩ = some (.int .u8 (x : Int)) := fun o => cell_alloc_l (W := wr) o q0
      clear hx
      have hc16 : x % 16 < 16 := Nat.mod_lt _ (by decide)
      have hm4 : x / 16 % 4 = 0 ∨ x / 16 % 4 = 1 ∨ x / 16 % 4 = 2 ∨ x / 16 % 4 = 3 := by omega
      have i16 : (x : Int) % 16 < 16 := by omega
      have i17 : 0 ≤ (x : Int) % 16 := by omega
      rcases hm4 with h4 | h4 | h4 | h4
      · have HST4 : Hid (stB x = true) := Lib.hid (by unfold stB; rw [h4]; rfl)
        go_wp2_with (at_builtin; go_must (refine app_cells _ rfl _ _ _ 46 rfl Try.underlying26 infoI rfl (by decide) rfl ((HO.out.alloc _).alloc _) rfl (one_gs _ f k x HX.out 2 (by unfold codeOf; rw [h4]; rfl) 46 (wr.heap.size + 1) (by simp)) (fun i _ => icell_one _ i) (by unfold maxLen; omega) (by omega) (by simp; omega) (k + 1) rfl (icell (gs f)) (gs_cat f k) ?_; rintro A2 c2 w2 hown2 hB2; have hst2 : St w2 w0.heap.size f k := ((HST.out.below ((Below.refl wr.heap.size wr).alloc (Nat.le_refl _) (.cells #[.int .u16 2, .int .u16 96, .int .u16 3, .int .u16 97] 35)) HST.out.1).below ((Below.refl _ _).alloc (Nat.le_refl _) (.cells #[.int .u16 2, .int .u8 0, .int .u8 0, .int .u32 ((x : Int) % 16)] 46)) (by have := HST.out.1; simp; omega)).below hB2 (by omega); have hb2 : Below w0.heap.size w0 w2 := ((hB.alloc hs _).alloc (by simp; omega) _).trans (hB2.mono (by omega)); obtain ⟨p0, f0⟩ := hst2.2 (x % 16) hc16; have HST2 := Lib.hid hst2; have HO2 := Lib.hid hown2; clear hst2 hown2))
        refine ⟨⟨k + 1, A2, c2, z, by omega, by go_num, rfl, rfl, ?_, hb2.setCell (Nat.le_refl _) _, ⟨by simpa [World.setCell] using HST2.out.1, fun c hc => ?_⟩, HZ.out.skip (by unfold badB; rw [HX.out, HST4.out]; rfl)⟩, by simp [intOf]; omega⟩
        · exact own_other HO2.out (by omega)
        · have hsb : sb f c (k + 1) = (sb f c k || (x % 16 == c)) := by show (sb f c k || (stB (f k) && f k % 16 == c)) = _; rw [HX.out, HST4.out]; rfl
          rw [hsb]
          exact st_set HST2.out.1 (HST2.out.2 c hc) (x % 16)
      · have HST4 : Hid (stB x = false) := Lib.hid (by unfold stB; rw [h4]; rfl)
        have hsk : ∀ c, sb f c (k + 1) = sb f c k := fun c => by show (sb f c k || (stB (f k) && f k % 16 == c)) = _; rw [HX.out, HST4.out]; simp
        have hbk : badB f k = !sb f (x % 16) k := by unfold badB; rw [HX.out, HST4.out]; rfl
        have HSK := Lib.hid hsk
        obtain ⟨sv, hsv⟩ : ∃ sv, sb f (x % 16) k = sv := ⟨_, rfl⟩
        have HSV := Lib.hid hsv
        rw [hsv] at hbk
        have HBK := Lib.hid hbk
        clear hsk hbk hsv
        cases sv
        · by_cases hz0 : z < 0
          · go_wp2_with (at_builtin; go_must (refine app_cells _ rfl _ _ _ 46 rfl Try.underlying26 infoI rfl (by decide) rfl ((HO.out.alloc _).alloc _) rfl (one_gs _ f k x HX.out 96 (by unfold codeOf; rw [h4]; rfl) 46 (wr.heap.size + 1) (by simp)) (fun i _ => icell_one _ i) (by unfold maxLen; omega) (by omega) (by simp; omega) (k + 1) rfl (icell (gs f)) (gs_cat f k) ?_; rintro A2 c2 w2 hown2 hB2; have hst2 : St w2 w0.heap.size f k := ((HST.out.below ((Below.refl wr.heap.size wr).alloc (Nat.le_refl _) (.cells #[.int .u16 2, .int .u16 96, .int .u16 3, .int .u16 97] 35)) HST.out.1).below ((Below.refl _ _).alloc (Nat.le_refl _) (.cells #[.int .u16 96, .int .u8 0, .int .u8 0, .int .u32 ((x : Int) % 16)] 46)) (by have := HST.out.1; simp; omega)).below hB2 (by omega); have hb2 : Below w0.heap.size w0 w2 := ((hB.alloc hs _).alloc (by simp; omega) _).trans (hB2.mono (by omega)); obtain ⟨p0, f0⟩ := hst2.2 (x % 16) hc16; rw [HSV.out] at p0; have HST2 := Lib.hid hst2; have HO2 := Lib.hid hown2; clear hst2 hown2))
            exact ⟨⟨k + 1, A2, c2, k, by omega, by go_num, rfl, rfl, HO2.out, hb2, ⟨HST2.out.1, fun c hc => by rw [HSK.out]; exact HST2.out.2 c hc⟩, HZ.out.now hz0 HBK.out⟩, by simp [intOf]; omega⟩
          · go_wp2_with (at_builtin; go_must (refine app_cells _ rfl _ _ _ 46 rfl Try.underlying26 infoI rfl (by decide) rfl ((HO.out.alloc _).alloc _) rfl (one_gs _ f k x HX.out 96 (by unfold codeOf; rw [h4]; rfl) 46 (wr.heap.size + 1) (by simp)) (fun i _ => icell_one _ i) (by unfold maxLen; omega) (by omega) (by simp; omega) (k + 1) rfl (icell (gs f)) (gs_cat f k) ?_; rintro A2 c2 w2 hown2 hB2; have hst2 : St w2 w0.heap.size f k := ((HST.out.below ((Below.refl wr.heap.size wr).alloc (Nat.le_refl _) (.cells #[.int .u16 2, .int .u16 96, .int .u16 3, .int .u16 97] 35)) HST.out.1).below ((Below.refl _ _).alloc (Nat.le_refl _) (.cells #[.int .u16 96, .int .u8 0, .int .u8 0, .int .u32 ((x : Int) % 16)] 46)) (by have := HST.out.1; simp; omega)).below hB2 (by omega); have hb2 : Below w0.heap.size w0 w2 := ((hB.alloc hs _).alloc (by simp; omega) _).trans (hB2.mono (by omega)); obtain ⟨p0, f0⟩ := hst2.2 (x % 16) hc16; rw [HSV.out] at p0; have HST2 := Lib.hid hst2; have HO2 := Lib.hid hown2; clear hst2 hown2))
            exact ⟨⟨k + 1, A2, c2, z, by omega, by go_num, rfl, rfl, HO2.out, hb2, ⟨HST2.out.1, fun c hc => by rw [HSK.out]; exact HST2.out.2 c hc⟩, HZ.out.keep hz0⟩, by simp [intOf]; omega⟩
        · go_wp2_with (at_builtin; go_must (refine app_cells _ rfl _ _ _ 46 rfl Try.underlying26 infoI rfl (by decide) rfl ((HO.out.alloc _).alloc _) rfl (one_gs _ f k x HX.out 96 (by unfold codeOf; rw [h4]; rfl) 46 (wr.heap.size + 1) (by simp)) (fun i _ => icell_one _ i) (by unfold maxLen; omega) (by omega) (by simp; omega) (k + 1) rfl (icell (gs f)) (gs_cat f k) ?_; rintro A2 c2 w2 hown2 hB2; have hst2 : St w2 w0.heap.size f k := ((HST.out.below ((Below.refl wr.heap.size wr).alloc (Nat.le_refl _) (.cells #[.int .u16 2, .int .u16 96, .int .u16 3, .int .u16 97] 35)) HST.out.1).below ((Below.refl _ _).alloc (Nat.le_refl _) (.cells #[.int .u16 96, .int .u8 0, .int .u8 0, .int .u32 ((x : Int) % 16)] 46)) (by have := HST.out.1; simp; omega)).below hB2 (by omega); have hb2 : Below w0.heap.size w0 w2 := ((hB.alloc hs _).alloc (by simp; omega) _).trans (hB2.mono (by omega)); obtain ⟨p0, f0⟩ := hst2.2 (x % 16) hc16; rw [HSV.out] at p0; have HST2 := Lib.hid hst2; have HO2 := Lib.hid hown2; clear hst2 hown2))
          exact ⟨⟨k + 1, A2, c2, z, by omega, by go_num, rfl, rfl, HO2.out, hb2, ⟨HST2.out.1, fun c hc => by rw [HSK.out]; exact HST2.out.2 c hc⟩, HZ.out.skip HBK.out⟩, by simp [intOf]; omega⟩
      · have HST4 : Hid (stB x = true) := Lib.hid (by unfold stB; rw [h4]; rfl)
        go_wp2_with (at_builtin; go_must (refine app_cells _ rfl _ _ _ 46 rfl Try.underlying26 infoI rfl (by decide) rfl ((HO.out.alloc _).alloc _) rfl (one_gs _ f k x HX.out 3 (by unfold codeOf; rw [h4]; rfl) 46 (wr.heap.size + 1) (by simp)) (fun i _ => icell_one _ i) (by unfold maxLen; omega) (by omega) (by simp; omega) (k + 1) rfl (icell (gs f)) (gs_cat f k) ?_; rintro A2 c2 w2 hown2 hB2; have hst2 : St w2 w0.heap.size f k := ((HST.out.below ((Below.refl wr.heap.size wr).alloc (Nat.le_refl _) (.cells #[.int .u16 2, .int .u16 96, .int .u16 3, .int .u16 97] 35)) HST.out.1).below ((Below.refl _ _).alloc (Nat.le_refl _) (.cells #[.int .u16 3, .int .u8 0, .int .u8 0, .int .u32 ((x : Int) % 16)] 46)) (by have := HST.out.1; simp; omega)).below hB2 (by omega); have hb2 : Below w0.heap.size w0 w2 := ((hB.alloc hs _).alloc (by simp; omega) _).trans (hB2.mono (by omega)); obtain ⟨p0, f0⟩ := hst2.2 (x % 16) hc16; have HST2 := Lib.hid hst2; have HO2 := Lib.hid hown2; clear hst2 hown2))
        refine ⟨⟨k + 1, A2, c2, z, by omega, by go_num, rfl, rfl, ?_, hb2.setCell (Nat.le_refl _) _, ⟨by simpa [World.setCell] using HST2.out.1, fun c hc => ?_⟩, HZ.out.skip (by unfold badB; rw [HX.out, HST4.out]; rfl)⟩, by simp [intOf]; omega⟩
        · exact own_other HO2.out (by omega)
        · have hsb : sb f c (k + 1) = (sb f c k || (x % 16 == c)) := by show (sb f c k || (stB (f k) && f k % 16 == c)) = _; rw [HX.out, HST4.out]; rfl
          rw [hsb]
          exact st_set HST2.out.1 (HST2.out.2 c hc) (x % 16)
      · have HST4 : Hid (stB x = false) := Lib.hid (by unfold stB; rw [h4]; rfl)
        have hsk : ∀ c, sb f c (k + 1) = sb f c k := fun c => by show (sb f c k || (stB (f k) && f k % 16 == c)) = _; rw [HX.out, HST4.out]; simp
        have hbk : badB f k = !sb f (x % 16) k := by unfold badB; rw [HX.out, HST4.out]; rfl
        have HSK := Lib.hid hsk
        obtain ⟨sv, hsv⟩ : ∃ sv, sb f (x % 16) k = sv := ⟨_, rfl⟩
        have HSV := Lib.hid hsv
        rw [hsv] at hbk
        have HBK := Lib.hid hbk
        clear hsk hbk hsv
        cases sv
        · by_cases hz0 : z < 0
          · go_wp2_with (at_builtin; go_must (refine app_cells _ rfl _ _ _ 46 rfl Try.underlying26 infoI rfl (by decide) rfl ((HO.out.alloc _).alloc _) rfl (one_gs _ f k x HX.out 97 (by unfold codeOf; rw [h4]; rfl) 46 (wr.heap.size + 1) (by simp)) (fun i _ => icell_one _ i) (by unfold maxLen; omega) (by omega) (by simp; omega) (k + 1) rfl (icell (gs f)) (gs_cat f k) ?_; rintro A2 c2 w2 hown2 hB2; have hst2 : St w2 w0.heap.size f k := ((HST.out.below ((Below.refl wr.heap.size wr).alloc (Nat.le_refl _) (.cells #[.int .u16 2, .int .u16 96, .int .u16 3, .int .u16 97] 35)) HST.out.1).below ((Below.refl _ _).alloc (Nat.le_refl _) (.cells #[.int .u16 97, .int .u8 0, .int .u8 0, .int .u32 ((x : Int) % 16)] 46)) (by have := HST.out.1; simp; omega)).below hB2 (by omega); have hb2 : Below w0.heap.size w0 w2 := ((hB.alloc hs _).alloc (by simp; omega) _).trans (hB2.mono (by omega)); obtain ⟨p0, f0⟩ := hst2.2 (x % 16) hc16; rw [HSV.out] at p0; have HST2 := Lib.hid hst2; have HO2 := Lib.hid hown2; clear hst2 hown2))
            exact ⟨⟨k + 1, A2, c2, k, by omega, by go_num, rfl, rfl, HO2.out, hb2, ⟨HST2.out.1, fun c hc => by rw [HSK.out]; exact HST2.out.2 c hc⟩, HZ.out.now hz0 HBK.out⟩, by simp [intOf]; omega⟩
          · go_wp2_with (at_builtin; go_must (refine app_cells _ rfl _ _ _ 46 rfl Try.underlying26 infoI rfl (by decide) rfl ((HO.out.alloc _).alloc _) rfl (one_gs _ f k x HX.out 97 (by unfold codeOf; rw [h4]; rfl) 46 (wr.heap.size + 1) (by simp)) (fun i _ => icell_one _ i) (by unfold maxLen; omega) (by omega) (by simp; omega) (k + 1) rfl (icell (gs f)) (gs_cat f k) ?_; rintro A2 c2 w2 hown2 hB2; have hst2 : St w2 w0.heap.size f k := ((HST.out.below ((Below.refl wr.heap.size wr).alloc (Nat.le_refl _) (.cells #[.int .u16 2, .int .u16 96, .int .u16 3, .int .u16 97] 35)) HST.out.1).below ((Below.refl _ _).alloc (Nat.le_refl _) (.cells #[.int .u16 97, .int .u8 0, .int .u8 0, .int .u32 ((x : Int) % 16)] 46)) (by have := HST.out.1; simp; omega)).below hB2 (by omega); have hb2 : Below w0.heap.size w0 w2 := ((hB.alloc hs _).alloc (by simp; omega) _).trans (hB2.mono (by omega)); obtain ⟨p0, f0⟩ := hst2.2 (x % 16) hc16; rw [HSV.out] at p0; have HST2 := Lib.hid hst2; have HO2 := Lib.hid hown2; clear hst2 hown2))
            exact ⟨⟨k + 1, A2, c2, z, by omega, by go_num, rfl, rfl, HO2.out, hb2, ⟨HST2.out.1, fun c hc => by rw [HSK.out]; exact HST2.out.2 c hc⟩, HZ.out.keep hz0⟩, by simp [intOf]; omega⟩
        · go_wp2_with (at_builtin; go_must (refine app_cells _ rfl _ _ _ 46 rfl Try.underlying26 infoI rfl (by decide) rfl ((HO.out.alloc _).alloc _) rfl (one_gs _ f k x HX.out 97 (by unfold codeOf; rw [h4]; rfl) 46 (wr.heap.size + 1) (by simp)) (fun i _ => icell_one _ i) (by unfold maxLen; omega) (by omega) (by simp; omega) (k + 1) rfl (icell (gs f)) (gs_cat f k) ?_; rintro A2 c2 w2 hown2 hB2; have hst2 : St w2 w0.heap.size f k := ((HST.out.below ((Below.refl wr.heap.size wr).alloc (Nat.le_refl _) (.cells #[.int .u16 2, .int .u16 96, .int .u16 3, .int .u16 97] 35)) HST.out.1).below ((Below.refl _ _).alloc (Nat.le_refl _) (.cells #[.int .u16 97, .int .u8 0, .int .u8 0, .int .u32 ((x : Int) % 16)] 46)) (by have := HST.out.1; simp; omega)).below hB2 (by omega); have hb2 : Below w0.heap.size w0 w2 := ((hB.alloc hs _).alloc (by simp; omega) _).trans (hB2.mono (by omega)); obtain ⟨p0, f0⟩ := hst2.2 (x % 16) hc16; rw [HSV.out] at p0; have HST2 := Lib.hid hst2; have HO2 := Lib.hid hown2; clear hst2 hown2))
          exact ⟨⟨k + 1, A2, c2, z, by omega, by go_num, rfl, rfl, HO2.out, hb2, ⟨HST2.out.1, fun c hc => by rw [HSK.out]; exact HST2.out.2 c hc⟩, HZ.out.skip HBK.out⟩, by simp [intOf]; omega⟩
    · obtain rfl : k = n := by omega
      have hl1 := (lit1 wr 22 46 (by decide)).1
      rcases HZ.out with ⟨rfl, hno⟩ | ⟨q, hq, rfl, hbq, hno⟩
      · have HNO := Lib.hid (st_good f k hn hno)
        clear hno
        go_wp2_with (at_builtin; go_must (refine app_cells _ rfl _ _ _ 46 rfl Try.underlying26 infoI rfl (by decide) rfl (HO.out.alloc _) rfl hl1 (fun i _ => icell_one _ i) (by unfold maxLen; omega) (by omega) (by have := HST.out.1; simp; omega) (k + 1) rfl (icell (gS f k)) (gS_cat f k) ?_; rintro A2 c2 w2 hown2 hB2; have HI2 : Hid (Ins w2 w2.heap.size A2 (k + 1) c2 (gS f k)) := Lib.hid ⟨hown2.cel, fun i _ => gS_ok f k i⟩; have hb2 : Below w0.heap.size w0 w2 := (hB.alloc hs _).trans (hB2.mono (by omega)); clear hown2))
        refine (check_any _ _ _ _ _ HI2.out).mono ?_
        rw [HNO.out]
        rintro e w3 ⟨rfl, hB3⟩
        have hb3 := hb2.trans (hB3.mono hb2.size)
        go_wp2_with (go_at_call 13
                     refine (awake4_any _).mono ?_
                     rintro e w4 ⟨rfl, hB4⟩
                     have hb4 := hb3.trans (hB4.mono hb3.size))
        go_ret
        exact ⟨rfl, hb4⟩
      · have HNO := Lib.hid (st_bad f k q hn hq hbq hno)
        have tq : ((q : Int) ≥ 0) := by omega
        clear hno hbq
        go_wp2_with (at_builtin; go_must (refine app_cells _ rfl _ _ _ 46 rfl Try.underlying26 infoI rfl (by decide) rfl (HO.out.alloc _) rfl hl1 (fun i _ => icell_one _ i) (by unfold maxLen; omega) (by omega) (by have := HST.out.1; simp; omega) (k + 1) rfl (icell (gS f k)) (gS_cat f k) ?_; rintro A2 c2 w2 hown2 hB2; have HI2 : Hid (Ins w2 w2.heap.size A2 (k + 1) c2 (gS f k)) := Lib.hid ⟨hown2.cel, fun i _ => gS_ok f k i⟩; have hb2 : Below w0.heap.size w0 w2 := (hB.alloc hs _).trans (hB2.mono (by omega)); clear hown2))
        refine (check_any _ _ _ _ _ HI2.out).mono ?_
        rw [HNO.out]
        rintro e w3 ⟨rfl, hB3⟩
        have hb3 := hb2.trans (hB3.mono hb2.size)
        go_wp2_with (go_at_call 13
                     refine (awake4_any _).mono ?_
                     rintro e w4 ⟨rfl, hB4⟩
                     have hb4 := hb3.trans (hB4.mono hb3.size))
        go_ret
        exact ⟨rfl, hb4⟩

set_option maxHeartbeats 1000000 in
theorem walk_CheckStraight {w0 : World} (A : Option Addr) (n c : Nat) (f : Nat → Nat) (hr : Byt w0 w0.heap.size A n c f) :
    Calls Try.prog 8 #[.slice A n c] w0 fun e w' => e = .returned (.bool true) ∧ Below w0.heap.size w0 w' := by
  have hmx := hr.le
  unfold maxLen at hmx
  obtain ⟨m1, m2⟩ := hmx
  by_cases h1 : 60 < n
  · go_enter Try.func8, Try.ntmps8
    go_wp2
    go_ret
    exact ⟨rfl, Below.refl _ _⟩
  · exact straight_go A n c f hr (by omega)

namespace checkStraightRow
open Go.ChangeShapes Go.WideShapes Go.ChangeAt Go.RowKit Go.Joins
open Go.ChangeMaps (open_string shut_string)
set_option linter.unusedVariables false
theorem own : ownKnob Try.prog.godebug = none := by kernel_rfl
theorem laidOut : laidOutB Try.prog = true := by kernel_rfl
set_option maxRecDepth 100000 in
theorem lifted (os : Os) (started : os.Started) (H : Type) (enc : TypeId × Value → H) :
    ReturnsInHanded {} Try.checked os 8 .any (Rows.checkStraightSpec.pre6 enc Try.prog Try.f8 Rows.checkStraightRow.domain false) (Rows.checkStraightSpec.post enc Try.prog Try.f8 false true false false) := by
  refine returnsInHanded_of_change (C := Try.checked) own started (by kernel_rfl) Try.func8
    (ChangeSpec.witness6 (enc := enc) (C := Try.checked) false ⟨#[], #[.slice none 0 0], []⟩ 8 (by kernel_rfl) (by kernel_rfl) (by kernel_rfl) (by kernel_rfl)) ?_
  intro W base args ds gs before hval0 hW hcnd _
  have hval : ∀ (j : Nat) t v, Try.f8.params[j]? = some t → args[j]? = some v → Value.okWide Try.prog W .any base t v := hval0
  have hW' := hW
  obtain ⟨p, q, hA0, hV, rfl, hfz, hnd⟩ := hW
  have hA : DataW.TrodAll enc Try.prog W 0 (fun _ => true) true Try.f8.params.toList args.toList ds p := hA0
  rw [Try.params8] at hA hval
  obtain ⟨v0, vs0, d0, ds0, p0, q0, hargs, rfl, rfl, h0, r0⟩ := trodAll_cons hA
  obtain ⟨rfl, rfl, rfl⟩ := trodAll_nil r0
  obtain rfl : args = #[v0] := by cases args; simp_all
  obtain ⟨rfl, rfl⟩ := trodVars_none hV
  have k0 := h0
  have lt0 : ∀ x ∈ p0, x.block < W.heap.size := by obtain ⟨m, hm⟩ := k0; exact DataW.trod_lt m _ _ _ hm
  obtain ⟨a0, len0, cap0, rfl⟩ := okWide_slice Try.underlying48 (hval 0 48 v0 rfl rfl)
  obtain ⟨f0, w0⟩ : ∃ f, Byt W W.heap.size a0 len0 cap0 f := by
    obtain ⟨fuel, hf⟩ := h0
    rcases open_ints Try.underlying48 Try.underlying5 (by kernel_rfl) hf with ⟨hcs, _⟩ | ⟨x, l, c, zs, hcs, _, hl, hm, hz, _, hcell, hwz⟩
    · simp [Value.cells] at hcs
      obtain ⟨rfl, rfl, rfl⟩ := hcs
      exact ⟨fun _ => 0, Byt.nil_⟩
    · simp [Value.cells] at hcs
      obtain ⟨rfl, rfl, rfl⟩ := hcs
      exact ⟨_, byt_of_ints hl hm (by have : zs.length = cap0 := by simpa using hz
                                      omega) hcell hwz⟩
  clear hA0 hval0
  refine (walk_CheckStraight (w0 := W) a0 len0 cap0 f0 w0).mono fun e W' ⟨he, bel⟩ => ?_
  subst he
  exact ⟨_, rfl, _, _, _, [], _, [], hW', trodAll_mk1 (shut_bool Try.underlying4 _), (trodAll_cons_mk (Below.trod laidOut (by kernel_rfl) (of_decide_eq_true (by kernel_rfl)) k0 bel lt0) trodAll_mk0), rfl, bel.frame _, fun h => by cases h⟩

theorem over : Rows.checkStraightRow.holds Try.pinned (OpenSpec.ofChange Rows.checkStraightSpec) :=
  OpenClaim.holds_of_wide 8 Try.f8 rfl rfl rfl rfl rfl rfl rfl ⟨rfl, rfl, rfl, rfl, rfl⟩ rfl rfl rfl rfl rfl (by kernel_rfl) Try.func8 (by kernel_rfl)
    (of_decide_eq_true (by kernel_rfl)) (by unfold Func.isWrapper; first | (rw [if_pos (by decide +kernel)]; kernel_rfl) | (rw [if_neg (by decide +kernel)]; exact ⟨rfl, rfl⟩))
    (fun os started H enc _ => lifted os started H enc)
end checkStraightRow

theorem checkStraight_proved : Rows.CheckStraightSaid := checkStraightRow.over
#print axioms checkStraight_proved
end Go.Proofs.Ytdkmomdekngpnab
