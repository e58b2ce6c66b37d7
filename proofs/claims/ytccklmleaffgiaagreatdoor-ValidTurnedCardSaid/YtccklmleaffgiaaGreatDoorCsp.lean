/-
  Layer 15: what the chapter's example says.
-/
import Derived.Test.YtccklmleaffgiaaGreatDoorP28
import Derived.Test.YtccklmleaffgiaaGreatDoorChp
import Derived.Test.YtccklmleaffgiaaGreatDoorP27
import Derived.Deep.RegionHeld3
namespace Go.Proofs.YtccklmleaffgiaaGreatDoor
open Go.RowKit Go.Shelf Go.Lib Go.Sort
set_option linter.unusedVariables false

abbrev rdA : Array Value := #[.string rdS, .int .i64 8, .int .i64 0, .slice none 0 0, .string rdS, .int .i64 8, .int .i64 0, .slice none 0 0]
abbrev rdL : RL := ⟨rdS, 8, 0, none, 0, 0, fun _ => default⟩
theorem rdL_ru (w : World) : RuT w rdL := ⟨by decide, by decide, by decide, Nat.le_refl _, Nat.zero_le _, .inl rfl⟩
theorem rdL_two {w : World} {b : Nat} (h : RowC w b rdA 50) : RlL w (some ⟨b, 0, none⟩) [rdL, rdL] := by
  refine ⟨.inr ⟨b, 0, rfl, h.lt, fun i hi => ?_⟩, fun r hr => ?_⟩
  · have : i = 0 ∨ i = 1 := by simp at hi; omega
    rcases this with rfl | rfl
    · exact ⟨h.cell 0 _ rfl, h.cell 1 _ rfl, h.cell 2 _ rfl, h.cell 3 _ rfl⟩
    · exact ⟨h.cell 4 _ rfl, h.cell 5 _ rfl, h.cell 6 _ rfl, h.cell 7 _ rfl⟩
  · have : r = rdL := by simpa using hr
    subst this; exact rdL_ru w
theorem rdL_one {w : World} {b : Nat} (h : RowC w b rdA 50) : RlL w (some ⟨b, 0, none⟩) [rdL] := by
  refine ⟨.inr ⟨b, 0, rfl, h.lt, fun i hi => ?_⟩, fun r hr => ?_⟩
  · obtain rfl : i = 0 := by simpa using hi
    exact ⟨h.cell 0 _ rfl, h.cell 1 _ rfl, h.cell 2 _ rfl, h.cell 3 _ rfl⟩
  · have : r = rdL := by simpa using hr
    subst this; exact rdL_ru w
theorem rdS2 : ∀ e ∈ [rdL, rdL], e.n ≤ 100000 := fun e he => by
  have : e = rdL := by simpa using he
  subst this; decide
theorem rdS1 : ∀ e ∈ [rdL], e.n ≤ 100000 := fun e he => by
  have : e = rdL := by simpa using he
  subst this; decide
set_option maxRecDepth 100000 in
set_option maxHeartbeats 8000000 in
theorem awake15_any (w : World) : Calls Tryz.prog 18 #[] w fun e w' => e = .returned (.bool true) ∧ Below w.heap.size w w' := by
  obtain ⟨B, hBs⟩ : ∃ B, w.heap.size = B := ⟨_, rfl⟩
  obtain ⟨W1, hW1⟩ : ∃ W, (w.alloc (.cells (polA 0 0 false none 0 0) 26)) = W := ⟨_, rfl⟩
  obtain ⟨W3, hW3⟩ : ∃ W, (W1.setCell ⟨B, 0, none⟩ (.int .i64 1)).alloc (.cells (rulA ⟨#[]⟩ 0 0 none 0 0) 50) = W := ⟨_, rfl⟩
  obtain ⟨W5, hW5⟩ : ∃ W, ((W3.setCell ⟨B + 1, 0, none⟩ (.string rdS)).setCell ⟨B + 1, 1, none⟩ (.int .i64 8)).alloc (.cells rdA 50) = W := ⟨_, rfl⟩
  obtain ⟨W6, hW6⟩ : ∃ W, W5.setCell ⟨B, 3, none⟩ (.slice (some ⟨B + 2, 0, none⟩) 2 2) = W := ⟨_, rfl⟩
  have s1 : W1.heap.size = B + 1 := by rw [← hW1, ← hBs]; simp
  have s3 : W3.heap.size = B + 2 := by rw [← hW3]; simp [s1]
  have s5 : W5.heap.size = B + 3 := by rw [← hW5]; simp [s3]
  have p1 : RowC W1 B (polA 0 0 false none 0 0) 26 := by rw [← hW1, ← hBs]; exact RowC.new _ _ _ _ rfl
  have p3 : RowC W3 B (polA 1 0 false none 0 0) 26 := by rw [← hW3]; exact (p1.set 0 (.int .i64 1)).alloc _
  have r3 : RowC W3 (B + 1) (rulA ⟨#[]⟩ 0 0 none 0 0) 50 := by rw [← hW3]; exact RowC.new _ _ _ _ (by simp [s1])
  have r5 : RowC W5 (B + 2) rdA 50 := by rw [← hW5]; exact RowC.new _ _ _ _ (by simp [s3])
  have p5 : RowC W5 B (polA 1 0 false none 0 0) 26 := by rw [← hW5]; exact ((p3.setOther (g := B + 1) 0 (.string rdS) (by omega)).setOther (g := B + 1) 1 (.int .i64 8) (by omega)).alloc _
  have r4 : RowC ((W3.setCell ⟨B + 1, 0, none⟩ (.string rdS)).setCell ⟨B + 1, 1, none⟩ (.int .i64 8)) (B + 1) (rulA rdS 8 0 none 0 0) 50 := (r3.set 0 (.string rdS)).set 1 (.int .i64 8)
  have p6 : RowC W6 B (polA 1 0 false (some ⟨B + 2, 0, none⟩) 2 2) 26 := by rw [← hW6]; exact p5.set 3 _
  have r6 : RowC W6 (B + 2) rdA 50 := by rw [← hW6]; exact r5.setOther (g := B) 3 _ (by omega)
  have b6 : Below B w W6 := by
    rw [← hW6, ← hW5, ← hW3, ← hW1, ← hBs]
    exact (((((((Below.refl _ _).alloc (Nat.le_refl _) _).setCell (Nat.le_refl _) _).alloc (by simp) _).setCell (by simp) _).setCell (by simp) _).alloc (by simp; omega) _).setCell (Nat.le_refl _) _
  have s6 : B + 3 = W6.heap.size := by rw [← hW6]; simp [s5]
  have HFX : Hid (∀ W, Below W6.heap.size W6 W → RowC W B (polA 1 0 false (some ⟨B + 2, 0, none⟩) 2 2) 26 ∧ RowC W (B + 2) rdA 50 ∧ Below B w W) := Lib.hid fun W hW => ⟨p6.below hW p6.lt, r6.below hW r6.lt, b6.trans (hW.mono (by omega))⟩
  have HBS := Lib.hid hBs
  have x0 := p1.cell 0 (.int .i64 0) rfl
  have x1 := p1.frozen 0
  have y0 := r3.cell 0 (.string ⟨#[]⟩) rfl
  have y1 := r3.frozen 0
  have y2 := (r3.set 0 (.string rdS)).cell 1 (.int .i64 0) rfl
  have y3 := (r3.set 0 (.string rdS)).frozen 1
  have z0 := r4.cell 0 (.string rdS) rfl
  have z1 := r4.cell 1 (.int .i64 8) rfl
  have z2 := r4.cell 2 (.int .i64 0) rfl
  have z3 := r4.cell 3 (.slice none 0 0) rfl
  have u0 := p5.cell 3 (.slice none 0 0) rfl
  have u1 := p5.frozen 3
  clear p1 p3 r3 r5 p5 r4 p6 r6 b6
  have KC : Hid (∀ W, Below W6.heap.size W6 W → ∀ b cc, Tb W b 0 83 tblT → Calls Tryz.prog 17 #[.agg #[.int .i64 1, .int .i64 0, .bool false, .slice (some ⟨B + 2, 0, none⟩) 2 2], .slice (some ⟨b, 0, none⟩) 83 cc] W fun e w' => e = .returned (.tuple #[.int .i64 1, .int .i64 15]) ∧ Below W.heap.size W w') := Lib.hid fun W hW b cc ht => by
    refine Calls.mono (check_any 1 0 false (some ⟨B + 2, 0, none⟩) [rdL, rdL] 2 (some ⟨b, 0, none⟩) 83 cc tblT W (rdL_two (HFX.out W hW).2.1) (by decide) rdS2 (by decide) (.of ht)) ?_
    rintro e w' ⟨a, f, rfl, hc, hB⟩
    obtain ⟨rfl, rfl⟩ := rd_two hc
    exact ⟨rfl, hB⟩
  have KD : Hid (∀ W, Below W6.heap.size W6 W → ∀ b cc, Tb W b 0 83 tblT → Calls Tryz.prog 17 #[.agg #[.int .i64 1, .int .i64 0, .bool false, .slice (some ⟨B + 2, 0, none⟩) 1 2], .slice (some ⟨b, 0, none⟩) 83 cc] W fun e w' => e = .returned (.tuple #[.int .i64 0, .int .i64 0]) ∧ Below W.heap.size W w') := Lib.hid fun W hW b cc ht => by
    refine Calls.mono (check_any 1 0 false (some ⟨B + 2, 0, none⟩) [rdL] 2 (some ⟨b, 0, none⟩) 83 cc tblT W (rdL_one (HFX.out W hW).2.1) (by decide) rdS1 (by decide) (.of ht)) ?_
    rintro e w' ⟨a, f, rfl, hc, hB⟩
    obtain ⟨rfl, rfl⟩ := rd_one hc
    exact ⟨rfl, hB⟩
  have HM : Hid (∀ W, Below W6.heap.size W6 W → W.cell? ⟨B, 0, none⟩ = some (.int .i64 1) ∧ W.cell? ⟨B, 1, none⟩ = some (.int .i64 0) ∧ W.cell? ⟨B, 2, none⟩ = some (.bool false) ∧ W.cell? ⟨B, 3, none⟩ = some (.slice (some ⟨B + 2, 0, none⟩) 2 2)) := Lib.hid fun W hW => by
    have h := (HFX.out W hW).1
    exact ⟨h.cell 0 _ rfl, h.cell 1 _ rfl, h.cell 2 _ rfl, h.cell 3 _ rfl⟩
  go_enter Tryz.func18, Tryz.ntmps18
  go_upto_region 6 with fail
  clear x0 x1 y0 y1 y2 y3 z0 z1 z2 z3 u0 u1 hW1 hW3 hW5 hW6 s1 s3 s5 s6 hBs
  obtain ⟨m0, m1, m2, m3⟩ := HM.out W6 (Below.refl _ _)
  go_region_held3 (fun w' => w'.cell? ⟨B, 0, none⟩ = some (.int .i64 1) ∧ w'.cell? ⟨B, 1, none⟩ = some (.int .i64 0) ∧ w'.cell? ⟨B, 2, none⟩ = some (.bool false) ∧ w'.cell? ⟨B, 3, none⟩ = some (.slice (some ⟨B + 2, 0, none⟩) 2 2))
    (first | (with_reducible exact HM.out _ (by assumption)) | exact HM.out _ (Below.refl _ _) | exact HM.out _ (Below.refl _ _).drew)
    (first
      | (go_at_call 29
         refine (builtin_any _).mono ?_
         rintro e w7 ⟨b7, c7, rfl, ht7, hB7⟩
         have hk7 : Below W6.heap.size W6 w7 := (Below.refl _ _).drew.trans hB7)
      | (go_at_call 17
         refine (KC.out _ hk7 b7 c7 ht7).mono ?_
         rintro e w8 ⟨rfl, hB8⟩
         have hk8 : Below W6.heap.size W6 w8 := bTr hk7 hB8))
  have HK8 := Lib.hid hk8
  clear m0 m1 m2 m3 hk7 hk8 hB8 hB7 ht7
  go_upto_region 7 with fail
  obtain ⟨m0, m1, m2, m3⟩ := HM.out w8 HK8.out
  have HM8 : Hid (∀ W, Below w8.heap.size w8 W → W.cell? ⟨B, 0, none⟩ = some (.int .i64 1) ∧ W.cell? ⟨B, 1, none⟩ = some (.int .i64 0) ∧ W.cell? ⟨B, 2, none⟩ = some (.bool false) ∧ W.cell? ⟨B, 3, none⟩ = some (.slice (some ⟨B + 2, 0, none⟩) 2 2)) := Lib.hid fun W hW => HM.out W (bTr HK8.out hW)
  go_region_held3 (fun w' => w'.cell? ⟨B, 0, none⟩ = some (.int .i64 1) ∧ w'.cell? ⟨B, 1, none⟩ = some (.int .i64 0) ∧ w'.cell? ⟨B, 2, none⟩ = some (.bool false) ∧ w'.cell? ⟨B, 3, none⟩ = some (.slice (some ⟨B + 2, 0, none⟩) 2 2))
    (first | (with_reducible exact HM8.out _ (by assumption)) | exact HM8.out _ (Below.refl _ _) | exact HM8.out _ (Below.refl _ _).drew)
    (first
      | (go_at_call 29
         refine (builtin_any _).mono ?_
         rintro e w7 ⟨b7, c7, rfl, ht7, hB7⟩
         have hk7 : Below w8.heap.size w8 w7 := (Below.refl _ _).drew.trans hB7)
      | (go_at_call 17
         refine (KD.out _ (bTr HK8.out hk7) b7 c7 ht7).mono ?_
         rintro e w9 ⟨rfl, hB8⟩
         have hk9 : Below w8.heap.size w8 w9 := bTr hk7 hB8))
  all_goals go_wp2
  all_goals go_ret
  all_goals exact ⟨rfl, by rw [HBS.out]; exact (HFX.out _ (bTr HK8.out hk9)).2.2⟩
end Go.Proofs.YtccklmleaffgiaaGreatDoor
