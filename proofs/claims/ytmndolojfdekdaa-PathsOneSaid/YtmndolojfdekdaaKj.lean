/-
  The contract of check.stored: which cells are stored at each place of a formed program.
-/
import Derived.Test.YtmndolojfdekdaaKf
namespace Go.Proofs.Ytmndolojfdekdaa
open Go.RowKit

theorem pl_at {w : World} {B n c N : Nat} {A : Option Addr} {g : Nat → IV} (h : Cel w B 7 A n c (pcell g N)) (hn : 0 < n) :
    ∃ b off, A = some ⟨b, off, none⟩ ∧ b < B ∧ ∀ k, k < n → w.cell? ⟨b, off + k * 7, none⟩ = some (.int .u16 (g k).c) ∧ w.cell? ⟨b, off + k * 7 + 1, none⟩ = some (.int .u8 (g k).t) ∧ w.cell? ⟨b, off + k * 7 + 2, none⟩ = some (.int .u8 (g k).f) ∧ w.cell? ⟨b, off + k * 7 + 3, none⟩ = some (.int .u32 (g k).k) ∧ w.cell? ⟨b, off + k * 7 + 4, none⟩ = some (.int .i64 (kd (g k))) ∧ w.cell? ⟨b, off + k * 7 + 5, none⟩ = some (.bool (xx (g k))) ∧ w.cell? ⟨b, off + k * 7 + 6, none⟩ = some (.int .i64 ((N : Int) - 1 - (k : Int))) := by
  obtain ⟨b, off, rfl, hb, hc⟩ := h.at_ (by omega)
  refine ⟨b, off, rfl, hb, fun k hk => ⟨?_, ?_, ?_, ?_, ?_, ?_, ?_⟩⟩
  · have h := hc (k * 7 + 0) (by omega)
    rw [Nat.add_zero, pcell0] at h
    exact h
  · have h := hc (k * 7 + 1) (by omega)
    rw [pcell1, ← Nat.add_assoc] at h
    exact h
  · have h := hc (k * 7 + 2) (by omega)
    rw [pcell2, ← Nat.add_assoc] at h
    exact h
  · have h := hc (k * 7 + 3) (by omega)
    rw [pcell3, ← Nat.add_assoc] at h
    exact h
  · have h := hc (k * 7 + 4) (by omega)
    rw [pcell4, ← Nat.add_assoc] at h
    exact h
  · have h := hc (k * 7 + 5) (by omega)
    rw [pcell5, ← Nat.add_assoc] at h
    exact h
  · have h := hc (k * 7 + 6) (by omega)
    rw [pcell6, ← Nat.add_assoc] at h
    exact h
theorem storedL_lt (g : Nat → IV) (k : Nat) (l : List Nat) (i : Nat) : storedL g k l i < 65536 := by
  unfold storedL
  split
  · exact Nat.lt_of_le_of_lt Nat.and_le_left (storedT_lt g k i)
  · exact storedT_lt g k i
theorem onT_lt (g : Nat → IV) (k : Nat) : onT g k < 65536 := wordOf_lt _ 16

set_option maxRecDepth 100000 in
set_option maxHeartbeats 8000000 in
theorem stored_any (A : Option Addr) (n c : Nat) (g : Nat → IV) (w : World) (hr : Cel w w.heap.size 7 A n c (pcell g n)) (hok : ∀ i, i < n → (g i).ok) (h1 : n ≤ 4096)
    (hal : ∀ i, i < n → alone (g i) (n - 1 - i) = 0) (hlast : isRet (g (n - 1)) = true) :
    Calls Try.prog 77 #[.slice A n c] w fun e w' => e = .returned (.agg (arrOf (storedT g n))) ∧ Below w.heap.size w w' := by
  have HR := Lib.hid hr
  have HOK := Lib.hid hok
  have HALL := Lib.hid hal
  have HLAST := Lib.hid hlast
  have HZ := Lib.hid zero56
  have hz := zero56
  have hsz := arrOf_size (fun _ => 0)
  obtain ⟨Z, hZ⟩ : ∃ Z, arrOf (fun _ => 0) = Z := ⟨_, rfl⟩
  rw [hZ] at hsz
  have hz' : ∀ w, (zeroValue 153).run Try.prog w = .ok (.agg Z) w := fun w => by rw [← hZ]; exact zero56 w
  have ar1 : Arr ((w.alloc (.cells Z 153)).alloc (.cells Z 153)) (w.heap.size + 1) (fun i => if i < 0 then 65535 else 0) := by
    have h := Arr.new (w := w.alloc (.cells Z 153)) (fun _ => 0)
    rw [hZ] at h
    simpa using h
  have ar0 : Arr ((w.alloc (.cells Z 153)).alloc (.cells Z 153)) w.heap.size (fun _ => 0) := by
    have h := Arr.new (w := w) (fun _ => 0)
    rw [hZ] at h
    exact h.below ((Below.refl (w.heap.size + 1) _).alloc (by simp) _) (by omega)
  have hB0 : Below w.heap.size w ((w.alloc (.cells Z 153)).alloc (.cells Z 153)) := ((Below.refl _ _).alloc (Nat.le_refl _) _).alloc (by simp) _
  have AR := Lib.hid (And.intro ar1 (And.intro ar0 hB0))
  clear hr hok hal hlast hz hZ ar1 ar0 hB0
  go_enter Try.func77, Try.ntmps77
  go_wp2
  go_loopw [11] (fun i wr => ∃ k : Nat, k ≤ 4096 ∧ i = .int .i64 k ∧ Below w.heap.size w wr ∧ Arr wr w.heap.size (fun _ => 0) ∧ Arr wr (w.heap.size + 1) (fun i => if i < k then 65535 else 0))
    (fun i _ => 4096 - (intOf i).toNat)
  case atStart => exact ⟨0, by omega, rfl, AR.out.2.2, AR.out.2.1, AR.out.1⟩
  case round =>
    obtain ⟨k, hk, rfl, hB, h0, ha⟩ := hrel
    by_cases hlt : k < 4096
    · have q0 := ha.cell k hlt
      have q1 := ha.frozen k
      have i2 : (k : Int) < 4096 := by omega
      go_wp2
      refine ⟨⟨k + 1, by omega, by go_num, hB.setCell (by simp) _, h0.other _ _ (by omega), (ha.set k 65535).congr fun i _ => ?_⟩, by simp [intOf]; omega⟩
      by_cases h : i = k
      · rw [if_pos h, if_pos (by omega)]
      · rw [if_neg h]
        by_cases h' : i < k
        · rw [if_pos h', if_pos (by omega)]
        · rw [if_neg h', if_neg (by omega)]
    · obtain rfl : k = 4096 := by omega
      clear hz' hsz
      go_wp2_with (go_at_call 102
                   refine (lead_v (w.heap.size + 1) _ 0 0 _ ha (by omega) (by omega) (by simp) _ _ (by rfl) (by rfl)).mono ?_
                   rintro e w2 ⟨rfl, rfl⟩)
      have harr0 : Arr (wr.setCell ⟨w.heap.size + 1, 0, none⟩ (.int .u16 0)) (w.heap.size + 1) (storedT g 0) := (ha.set 0 0).congr fun i hi => by
        rw [storedT_zero]
        by_cases h : i = 0
        · rw [if_pos h, if_pos h]
        · rw [if_neg h, if_neg h, if_pos hi]
      have h00 : Arr (wr.setCell ⟨w.heap.size + 1, 0, none⟩ (.int .u16 0)) w.heap.size (fun _ => 0) := h0.other _ _ (by omega)
      have hb0 : Below w.heap.size w (wr.setCell ⟨w.heap.size + 1, 0, none⟩ (.int .u16 0)) := hB.setCell (by simp) _
      clear AR HZ ha h0 hB
      go_loopw [22] (fun i wr => ∃ k : Nat, k ≤ n ∧ i = .int .i64 k ∧ Below w.heap.size w wr ∧ Arr wr w.heap.size (fun _ => 0) ∧ Arr wr (w.heap.size + 1) (storedT g k))
        (fun i _ => n - (intOf i).toNat)
      case atStart => exact ⟨0, by omega, rfl, hb0, h00, harr0⟩
      case round =>
        clear hb0 h00 harr0
        obtain ⟨k, hk, rfl, hB, h0, ha⟩ := hrel
        by_cases hlt : k < n
        · have hs := hB.size
          obtain ⟨b, off, rfl, hb, hcc⟩ := pl_at (HR.out.below hB) (by omega)
          obtain ⟨q0, q1, q2, q3, q4, q5, q6⟩ := hcc k hlt
          have c0 := ha.cell k (by omega)
          have i2 : (k : Int) < 4096 := by omega
          have hbx := Bx.new (w := wr) (c := (g k).c) (t := (g k).t) (f := (g k).f) (k := (g k).k) (K := kd (g k)) (X := xx (g k)) (b := (n : Int) - 1 - (k : Int)) 156
          have HBX := Lib.hid hbx
          have HA := Lib.hid ha
          have HZ0 := Lib.hid h0
          have HF : Hid (∀ f ∈ fars (g k), k + 1 + f < n) := Lib.hid (fars_in g n k hlt (HALL.out k hlt) HLAST.out)
          obtain ⟨l, hl⟩ : ∃ l, fars (g k) = l := ⟨_, rfl⟩
          have HL := Lib.hid hl
          rw [hl] at HF
          obtain ⟨s0, hs0⟩ : ∃ s0, storedT g k k = s0 := ⟨_, rfl⟩
          have hs0l : s0 < 65536 := by rw [← hs0]; exact storedT_lt g k k
          obtain ⟨on, hon⟩ : ∃ on, onT g k = on := ⟨_, rfl⟩
          rw [hs0] at c0
          have c0' : ∀ o, (wr.alloc o).cell? ⟨w.heap.size + 1, k, none⟩ = some (.int .u16 (s0 : Int)) := fun o => cell_alloc_l o c0
          clear hcc hbx ha h0 hl
          cases hst : isSt (g k)
          · have HON : Hid (onT g k = on) := Lib.hid hon
            have he : on = s0 := by rw [← hs0, ← hon, onT_no g k hst]
            subst he
            have HST := Lib.hid hst
            have HE : Hid (True) := Lib.hid trivial
            clear hst hon hs0
            have HONL : Hid (on < 65536) := Lib.hid (by have := onT_lt g k; rw [HON.out] at this; exact this)
            go_wp2_with (first
              | (go_at_call 103
                 refine (stores_v (g k) _ _).mono ?_
                 rw [HST.out]
                 rintro e w3 ⟨rfl, hB3⟩
                 obtain ⟨r0, r1, r2, r3, r4, r5, r6⟩ := HBX.out.below hB3 (by simp)
                 have hb3 := (hB.alloc hs _).trans (hB3.mono (by simp; omega)))
              | (go_at_call 104
                 refine (leads_v (g k) (HOK.out k hlt) _ _).mono ?_
                 rw [HL.out]
                 rintro e w5 ⟨A2, m, rfl, hU, hB5⟩
                 have hb5 := hb3.trans (hB5.mono hb3.size)
                 have HU := Lib.hid hU
                 have hmx : m ≤ 9223372036854775807 := by have := hU.2.le; unfold maxLen at this; omega
                 have ha5' := ((HA.out.below ((Below.refl wr.heap.size wr).alloc (Nat.le_refl _) _) HA.out.lt).below hB3 (by have := HA.out.lt; simp; omega))
                 have h05' := ((HZ0.out.below ((Below.refl wr.heap.size wr).alloc (Nat.le_refl _) _) HZ0.out.lt).below hB3 (by have := HZ0.out.lt; simp; omega))
                 have ha5 := ha5'.below hB5 ha5'.lt
                 have ha50 := h05'.below hB5 h05'.lt
                 clear hU))
            go_loopw [39] (fun i wr' => ∃ j : Nat, j ≤ m ∧ i = .int .i64 j ∧ But (w.heap.size + 1) w5 wr' ∧ Arr wr' (w.heap.size + 1) (storedL g k (l.take j))) (fun i _ => m - (intOf i).toNat)
            case atStart => exact ⟨0, Nat.zero_le _, rfl, But.refl _ _, ha5⟩
            case round =>
              obtain ⟨j, hj, rfl, hbut, harr⟩ := hrel
              have hU := HU.out
              by_cases hjm : j < m
              · obtain ⟨b2, off2, rfl, hb2, hc2⟩ := hU.2.at_ (by omega)
                have c0 := hc2 j (by omega)
                have hlm : j < l.length := by have := hU.1; omega
                have hmem : l.getD j 0 ∈ l := by
                  rw [List.getD_eq_getElem?_getD, List.getElem?_eq_getElem hlm]
                  exact List.getElem_mem _
                have htk : l.take (j + 1) = l.take j ++ [l.getD j 0] := by
                  rw [List.take_add_one, List.getD_eq_getElem?_getD, List.getElem?_eq_getElem hlm]; rfl
                obtain ⟨x, ex⟩ : ∃ x, l.getD j 0 = x := ⟨_, rfl⟩
                rw [ex] at c0 hmem htk
                have hne := ha5.ne c0
                have c1 := (hbut.cell (p := ⟨b2, off2 + j, none⟩) hb2 hne).trans c0
                have hx := HF.out x hmem
                have HTK := Lib.hid htk
                have hU1 := Lib.hid hU.1
                clear hc2 c0 hU htk hmem ex hlm
                go_wp2_with (go_at_call 102
                             refine (lead_v (w.heap.size + 1) _ (k + 1 + x) on _ harr (by omega) HONL.out (storedL_lt _ _ _ _) _ _ (by omega) (by first | rfl | exact HE.out)).mono ?_
                             rintro e w6 ⟨rfl, rfl⟩)
                refine ⟨⟨j + 1, by omega, by go_num, hbut.set _ _, (harr.set _ _).congr fun i _ => ?_⟩, by simp [intOf]; omega⟩
                rw [HTK.out, storedL_snoc, HON.out]
                split
                · rename_i h; rw [h]
                · rfl
              · obtain rfl : j = m := by omega
                go_wp2
                have htl : l.take j = l := List.take_of_length_le (by have := hU.1; omega)
                refine ⟨⟨k + 1, by omega, by go_num, But.below hb5 hb5.size (by omega) hbut, hbut.arr ha50 (by omega), ?_⟩, by simp [intOf]; omega⟩
                rw [htl, ← HL.out] at harr
                exact harr.congr fun i _ => storedL_all g k i
          · have hk16 := st_small (g k) _ (HALL.out k hlt) hst
            have HON : Hid (onT g k = on) := Lib.hid hon
            obtain ⟨pw, hpw⟩ : ∃ pw, 2 ^ (g k).k = pw := ⟨_, rfl⟩
            have hpl : pw < 65536 := by
              rw [← hpw]
              exact Nat.lt_of_le_of_lt (Nat.pow_le_pow_right (by decide) (show (g k).k ≤ 15 by omega)) (by decide)
            have hor : bits .or .u16 (s0 : Int) (pw : Int) = (on : Int) := by
              rw [u16_or_nat s0 pw hs0l hpl, ← hs0, ← hpw, ← hon, onT_st g k hst hk16]
            have HK16 := Lib.hid hk16
            have HPW := Lib.hid hpw
            have HST := Lib.hid hst
            have HE : Hid (True) := Lib.hid trivial
            clear hpl hk16 hpw hst hon hs0
            have HONL : Hid (on < 65536) := Lib.hid (by have := onT_lt g k; rw [HON.out] at this; exact this)
            go_wp2_with (first
              | (go_at_call 103
                 refine (stores_v (g k) _ _).mono ?_
                 rw [HST.out]
                 rintro e w3 ⟨rfl, hB3⟩
                 obtain ⟨r0, r1, r2, r3, r4, r5, r6⟩ := HBX.out.below hB3 (by simp)
                 have hb3 := (hB.alloc hs _).trans (hB3.mono (by simp; omega)))
              | (go_at_call 79
                 refine (cell_v (g k) HK16.out _ _).mono ?_
                 rw [HPW.out]
                 rintro e w4 ⟨rfl, hB4⟩
                 obtain ⟨s0', s1', s2', s3', s4', s5', s6'⟩ := (HBX.out.below hB3 (by simp)).below hB4 (by have := hB3.size; simp at this; omega)
                 have hb4 := hb3.trans (hB4.mono hb3.size))
              | (go_at_call 104
                 refine (leads_v (g k) (HOK.out k hlt) _ _).mono ?_
                 rw [HL.out]
                 rintro e w5 ⟨A2, m, rfl, hU, hB5⟩
                 have hb5 := hb4.trans (hB5.mono hb4.size)
                 have HU := Lib.hid hU
                 have hmx : m ≤ 9223372036854775807 := by have := hU.2.le; unfold maxLen at this; omega
                 have ha5' := ((HA.out.below ((Below.refl wr.heap.size wr).alloc (Nat.le_refl _) _) HA.out.lt).below hB3 (by have := HA.out.lt; simp; omega))
                 have h05' := ((HZ0.out.below ((Below.refl wr.heap.size wr).alloc (Nat.le_refl _) _) HZ0.out.lt).below hB3 (by have := HZ0.out.lt; simp; omega))
                 have ha5 := (ha5'.below hB4 ha5'.lt).below hB5 (ha5'.below hB4 ha5'.lt).lt
                 have ha50 := (h05'.below hB4 h05'.lt).below hB5 (h05'.below hB4 h05'.lt).lt
                 clear hU))
            go_loopw [39] (fun i wr' => ∃ j : Nat, j ≤ m ∧ i = .int .i64 j ∧ But (w.heap.size + 1) w5 wr' ∧ Arr wr' (w.heap.size + 1) (storedL g k (l.take j))) (fun i _ => m - (intOf i).toNat)
            case atStart => exact ⟨0, Nat.zero_le _, rfl, But.refl _ _, ha5⟩
            case round =>
              obtain ⟨j, hj, rfl, hbut, harr⟩ := hrel
              have hU := HU.out
              by_cases hjm : j < m
              · obtain ⟨b2, off2, rfl, hb2, hc2⟩ := hU.2.at_ (by omega)
                have c0 := hc2 j (by omega)
                have hlm : j < l.length := by have := hU.1; omega
                have hmem : l.getD j 0 ∈ l := by
                  rw [List.getD_eq_getElem?_getD, List.getElem?_eq_getElem hlm]
                  exact List.getElem_mem _
                have htk : l.take (j + 1) = l.take j ++ [l.getD j 0] := by
                  rw [List.take_add_one, List.getD_eq_getElem?_getD, List.getElem?_eq_getElem hlm]; rfl
                obtain ⟨x, ex⟩ : ∃ x, l.getD j 0 = x := ⟨_, rfl⟩
                rw [ex] at c0 hmem htk
                have hne := ha5.ne c0
                have c1 := (hbut.cell (p := ⟨b2, off2 + j, none⟩) hb2 hne).trans c0
                have hx := HF.out x hmem
                have HTK := Lib.hid htk
                have hU1 := Lib.hid hU.1
                clear hc2 c0 hU htk hmem ex hlm
                go_wp2_with (go_at_call 102
                             refine (lead_v (w.heap.size + 1) _ (k + 1 + x) on _ harr (by omega) HONL.out (storedL_lt _ _ _ _) _ _ (by omega) (by first | rfl | exact HE.out)).mono ?_
                             rintro e w6 ⟨rfl, rfl⟩)
                refine ⟨⟨j + 1, by omega, by go_num, hbut.set _ _, (harr.set _ _).congr fun i _ => ?_⟩, by simp [intOf]; omega⟩
                rw [HTK.out, storedL_snoc, HON.out]
                split
                · rename_i h; rw [h]
                · rfl
              · obtain rfl : j = m := by omega
                go_wp2
                have htl : l.take j = l := List.take_of_length_le (by have := hU.1; omega)
                refine ⟨⟨k + 1, by omega, by go_num, But.below hb5 hb5.size (by omega) hbut, hbut.arr ha50 (by omega), ?_⟩, by simp [intOf]; omega⟩
                rw [htl, ← HL.out] at harr
                exact harr.congr fun i _ => storedL_all g k i
        · obtain rfl : k = n := by omega
          have h0' := h0.row (storedT g k)
          have hs1 := size56 (storedT g k)
          have hs2 := arrOf_size (fun _ => 0)
          have hs3 := arrOf_size (storedT g k)
          have h1c := arrOf_one (storedT g k)
          have ha' : wr.heap[w.heap.size + 1]? = some (.cells (arrOf (storedT g k)) 153) := ha
          have h0'' : wr.heap[w.heap.size]? = some (.cells (arrOf (fun _ => 0)) 153) := h0
          obtain ⟨D, hD⟩ : ∃ D, arrOf (storedT g k) = D := ⟨_, rfl⟩
          obtain ⟨Z0, hZ0⟩ : ∃ D, arrOf (fun _ => 0) = D := ⟨_, rfl⟩
          have h3' : (wr.setRow w.heap.size D).heap[w.heap.size]? = some (.cells D 153) := by rw [← hD]; exact h0'
          rw [hD] at ha' hs1 hs3 h1c
          rw [hZ0] at h0'' hs2
          have hfin := setRow_below hB (Nat.le_refl w.heap.size) D
          have HD := Lib.hid hD
          have H1 := Lib.hid ha'
          have H2 := Lib.hid h0''
          have H3 := Lib.hid h3'
          have S1 := Lib.hid hs1
          have S2 := Lib.hid (hs2.trans hs3.symm)
          clear ha h0 hD hZ0 h0' ha' h0'' h3' hs1 hs2 hs3
          go_wp2_with (first
            | (refine wpList_load_row (by rfl) 153 _ (by rfl) (w.heap.size + 1) (by rfl) _ D (0, 0) _ H1.out Try.underlying153 (by rfl) S1.out ?_)
            | (refine wpList_store_row (by rfl) 153 _ _ (by rfl) w.heap.size D (by rfl) (by rfl) _ Z0 H2.out S1.out S2.out h1c ?_))
          exact bodyPost_ret (results_cell_row Try.results77 _ _ w.heap.size _ D (0, 0) _ (by rfl) H3.out Try.underlying153 (by rfl) S1.out) rfl ⟨by rw [HD.out], hfin⟩
end Go.Proofs.Ytmndolojfdekdaa
