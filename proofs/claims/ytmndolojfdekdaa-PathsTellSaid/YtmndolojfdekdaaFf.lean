/-
  flow.reached itself.
-/
import Derived.Test.YtmndolojfdekdaaFe
import Derived.Deep.LoopGhost
namespace Go.Proofs.Ytmndolojfdekdaa
open Go.RowKit Go.Conc

set_option maxRecDepth 100000 in
theorem reached_nil (w : World) : Calls Try.prog 29 #[.slice none 0 0] w fun e w' => e = .returned (.slice none 0 0) ∧ Below w.heap.size w w' := by
  go_enter Try.func29, Try.ntmps29
  go_wp2
  go_ret
  exact ⟨rfl, (Below.refl _ _).alloc (Nat.le_refl _) _⟩

theorem h_last (W : World) (o : Obj) (k : Nat) (hk : k = W.heap.size) : (W.alloc o).heap[k]? = some o := by subst hk; exact heap_alloc_last W o
theorem h_old (W : World) (o v : Obj) (k : Nat) (h : W.heap[k]? = some v) : (W.alloc o).heap[k]? = some v := by
  rw [heap_alloc_old _ _ _ (Array.getElem?_eq_some_iff.1 h).1]; exact h
/-- Memory as it lies when all is made. -/
theorem RS.start (g : Nat → IV) (n : Nat) (w : World) (A : Option Addr) (cp : Nat) :
    RS g n w A cp (w.heap.size + 1) (w.heap.size + 1 + 1) (w.heap.size + 1 + 1 + 1 + 1) w.heap.size (w.heap.size + 1 + 1 + 1) (((((w.alloc (.cells #[.slice A n cp] 73)).alloc (.cells (boolRow n fun _ => false) 4)).alloc (.cells #[.slice (some ⟨w.heap.size + 1, 0, none⟩) n n] 25)).alloc (.chan n #[] false 0 0 false)).alloc (.cells #[.chan (some (w.heap.size + 1 + 1 + 1))] 116)) (fun _ => false) [] := by
  refine ⟨?_, ?_, ?_, ?_, ⟨0, 0, ?_⟩, ((((((Below.refl _ _).alloc (Nat.le_refl _) _).alloc (by simp) _).alloc (by simp; omega) _).alloc (by simp; omega) _).alloc (by simp; omega) _)⟩
  · exact h_old _ _ _ _ (h_old _ _ _ _ (h_old _ _ _ _ (h_last _ _ _ (by simp))))
  · exact h_old _ _ _ _ (h_old _ _ _ _ (h_last _ _ _ (by simp)))
  · exact h_last _ _ _ (by simp)
  · exact h_old _ _ _ _ (h_old _ _ _ _ (h_old _ _ _ _ (h_old _ _ _ _ (h_last _ _ _ rfl))))
  · exact h_old _ _ _ _ (h_last _ _ _ (by simp))

set_option maxRecDepth 100000 in
set_option maxHeartbeats 8000000 in
theorem reached_any (A : Option Addr) (n cp : Nat) (g : Nat → IV) (w : World) (hP : Plc w A n g) (F : Fmd g n) (hok : ∀ i, i < n → (g i).ok) :
    Calls Try.prog 29 #[.slice A n cp] w fun e w' => ∃ b, e = .returned (.slice (some ⟨b, 0, none⟩) n n) ∧ w.heap.size ≤ b ∧ RowAt w' b (boolRow n (way g n)) 4 ∧ Below w.heap.size w w' := by
  have hmb := mk_bools n F.le
  have hmc := mk_ahead n F.le
  have HF := Lib.hid F
  have HP := Lib.hid hP
  have HOK := Lib.hid hok
  have hn0 : ((n : Int) == 0) = false := by have := F.pos; simp; omega
  clear F hP hok
  go_enter Try.func29, Try.ntmps29
  go_wp2_with fail
  refine Calls.mono (lead_rs (RS.start g n w A cp) HP.out (by omega) (by omega) (by omega) (by omega) (by omega) (by omega) (by omega) (by omega) (by omega) 0 HF.out.pos (fun _ => HF.out.pos)) ?_
  rintro e w1 ⟨rfl, hrs, hsz, _⟩
  rw [if_neg (by decide)] at hrs
  have HRS := Lib.hid hrs
  have HS : Hid (w.heap.size + 5 ≤ w1.heap.size) := Lib.hid (by simpa using hsz)
  clear hrs hsz hmb hmc
  go_wp2_with fail
  go_loopg [] (2 * n + 1) (fun fuel wr => ∃ M q, RS g n w A cp (w.heap.size + 1) (w.heap.size + 1 + 1) (w.heap.size + 1 + 1 + 1 + 1) w.heap.size (w.heap.size + 1 + 1 + 1) wr M q ∧ BI g n M q [] ∧ 2 * unmet M n + q.length ≤ fuel ∧ w.heap.size + 5 ≤ wr.heap.size)
  case atStart =>
    refine ⟨_, _, HRS.out, BI.init HF.out, ?_, HS.out⟩
    have := (BI.init HF.out).room
    simp at this ⊢
    omega
  case round =>
    obtain ⟨M, q, hrs, hbi, hfu, hsz⟩ := hrel
    have hah := hrs.ahd.cell 0 _ rfl
    have HR := Lib.hid hrs
    have HBI := Lib.hid hbi
    have HSZ := Lib.hid hsz
    clear hrs hbi hsz HRS HS
    refine wp_block ?_
    refine wp_seq ?_
    refine wp_region_rg ?_
    show Rg _ _ _ [0] _ _
    refine Rg.value_k rfl rfl fun K hK => ?_
    go_simp
    refine hK _ _ ?_
    clear hK K
    refine Rg.nil ?_
    change Code.wp _ _ _ _ _
    clear hah
    refine wp_seq ?_
    refine wp_region_rg ?_
    show Rg _ _ _ [0, 1, 2] _ _
    cases q with
    | nil =>
      obtain ⟨s, r, hc⟩ := HR.out.chn
      refine Rg.dflt (c := w.heap.size + 1 + 1 + 1) (z := .agg #[.int .u16 0, .int .u8 0, .int .u8 0, .int .u32 0, .int .i64 0, .int .i64 0]) rfl rfl ?_ hc ?_
      · simp [go_sem, execOp, rcase, Act.eval]
      · clear hc
        iterate 2 (refine Rg.value_k rfl rfl fun K hK => ?_; go_simp; refine hK _ _ ?_; clear hK K)
        refine Rg.nil ?_
        change Code.wp _ _ _ _ _
        have hmet := HR.out.met.cell 0 _ rfl
        have HD : Hid (RowAt wr (w.heap.size + 1) (boolRow n (way g n)) 4) := Lib.hid (by
          have e : M = way g n := funext HBI.out.done
          rw [← e]
          exact HR.out.row)
        go_wp2
        go_ret
        exact ⟨_, rfl, by omega, HD.out, HR.out.bel⟩
    | cons i q =>
      obtain ⟨s, r, hc⟩ := HR.out.chn
      refine Rg.take (c := w.heap.size + 1 + 1 + 1) (z := .agg #[.int .u16 0, .int .u8 0, .int .u8 0, .int .u32 0, .int .i64 0, .int .i64 0]) rfl rfl ?_ hc (by simp) ?_
      · simp [go_sem, execOp, rcase, Act.eval]
      · have HR1 : Hid (RS g n w A cp (w.heap.size + 1) (w.heap.size + 1 + 1) (w.heap.size + 1 + 1 + 1 + 1) w.heap.size (w.heap.size + 1 + 1 + 1) (wr.setChan (w.heap.size + 1 + 1 + 1) n ((((i :: q).map fun i => flV (g i) i).toArray).extract 1 (((i :: q).map fun i => flV (g i) i).toArray).size) false s (r + 1) false) M q) := Lib.hid (by
          have h := HR.out.chan q s (r + 1) (by have := HSZ.out; omega) (by omega) (by omega) (by omega) (by omega) (by omega)
          have e : (((i :: q).map fun i => flV (g i) i).toArray).extract 1 (((i :: q).map fun i => flV (g i) i).toArray).size = (q.map fun i => flV (g i) i).toArray := by
            simp
            rw [List.take_of_length_le (by simp)]
          rw [e]
          exact h)
        have HSZ1 : Hid (w.heap.size + 5 ≤ (wr.setChan (w.heap.size + 1 + 1 + 1) n ((((i :: q).map fun i => flV (g i) i).toArray).extract 1 (((i :: q).map fun i => flV (g i) i).toArray).size) false s (r + 1) false).heap.size) := Lib.hid (by rw [size_setChan]; exact HSZ.out)
        have e0 : (((i :: q).map fun i => flV (g i) i).toArray).getD 0 undef = flV (g i) i := rfl
        rw [e0]
        generalize (wr.setChan (w.heap.size + 1 + 1 + 1) n ((((i :: q).map fun i => flV (g i) i).toArray).extract 1 (((i :: q).map fun i => flV (g i) i).toArray).size) false s (r + 1) false) = w2 at *
        have HPOP := Lib.hid (BI.pop HF.out HBI.out)
        have hil := way_lt HF.out i (HBI.out.ways i (HBI.out.qm i (List.mem_cons_self ..)))
        have HIL := Lib.hid hil
        have hiv := HOK.out i hil
        have HIV := Lib.hid hiv
        clear e0 hc HR HBI HSZ hil hiv
        have hfu2 : 2 * unmet M n + q.length + 1 ≤ gk := by simp at hfu; omega
        clear hfu
        obtain ⟨l, hl⟩ : ∃ l, nexts (g i) i = l := ⟨_, rfl⟩
        have HL := Lib.hid (leadsF_any (g i) HIV.out i)
        rw [hl] at HPOP HL
        generalize g i = v at *
        iterate 2 (refine Rg.value_k rfl rfl fun K hK => ?_; go_simp; refine hK _ _ ?_; clear hK K)
        refine Rg.nil ?_
        change Code.wp _ _ _ _ _
        go_wp2_with fail
        refine (HL.out _ (by have := HIL.out; have := HF.out.le; omega)).mono ?_
        rintro e w3 ⟨lA, m, rfl, hI, hB3⟩
        have hb23 : Below (w.heap.size + 5) w2 w3 := ((Below.refl _ w2).alloc HSZ1.out _).trans (hB3.mono (by have := HSZ1.out; simp; omega))
        have HR3 := Lib.hid (HR1.out.below hb23 (by omega) (by omega) (by omega) (by omega) (by omega) (by omega))
        have HSZ3 : Hid (w.heap.size + 5 ≤ w3.heap.size) := Lib.hid (Nat.le_trans HSZ1.out hb23.size)
        obtain ⟨hml, hcel, hblk⟩ := hI
        have HML := Lib.hid hml
        have HCEL := Lib.hid hcel
        have HBLK : Hid (∀ ad, lA = some ad → w.heap.size + 5 ≤ ad.block) := Lib.hid fun ad h => Nat.le_trans (by have := HSZ1.out; simp; omega) (hblk ad h)
        generalize gk = G at *
        have HFU := Lib.hid hfu2
        clear hb23 hB3 hml hcel hblk HL HR1 HSZ1 hfu2
        go_wp2_with fail
        go_loopg [30] m (fun fuel i' wr' => ∃ k M' q', k + fuel = m ∧ i' = .int .i64 (k : Nat) ∧ RS g n w A cp (w.heap.size + 1) (w.heap.size + 1 + 1) (w.heap.size + 1 + 1 + 1 + 1) w.heap.size (w.heap.size + 1 + 1 + 1) wr' M' q' ∧ BI g n M' q' (l.drop k) ∧ 2 * unmet M' n + q'.length + 1 ≤ G ∧ w.heap.size + 5 ≤ wr'.heap.size ∧ ∀ b', b' ≠ w.heap.size + 1 → b' ≠ w.heap.size + 1 + 1 + 1 → wr'.heap[b']? = w3.heap[b']?)
        case atStart => exact ⟨0, M, q, by omega, rfl, HR3.out, HPOP.out, HFU.out, HSZ3.out, fun _ _ _ => rfl⟩
        case round =>
          clear HR3 HPOP HFU HSZ3
          obtain ⟨k, M', q', hk, rfl, hrs, hbi, hfu, hsz, hoth⟩ := hrel
          have HR := Lib.hid hrs
          have HBI := Lib.hid hbi
          have HFU := Lib.hid hfu
          have HSZ := Lib.hid hsz
          have HOTH := Lib.hid hoth
          clear hrs hbi hfu hsz hoth
          by_cases hlt : k < m
          · obtain ⟨_, hm2⟩ := HCEL.out.le
            unfold maxLen at hm2
            obtain ⟨lb, lo, rfl, hlb, hlc⟩ := HCEL.out.at_ (by omega)
            have hc3 := (World.cell?_of_block (w := w3) (a := ⟨lb, lo + k, none⟩) (HOTH.out lb (by have := HBLK.out _ rfl; simp at this; omega) (by have := HBLK.out _ rfl; simp at this; omega))).trans (hlc k (by omega))
            have hdr : l.drop k = l.getD k 0 :: l.drop (k + 1) := by
              have := HML.out
              rw [List.drop_eq_getElem_cons (by omega), List.getD_eq_getElem?_getD, List.getElem?_eq_getElem (by omega)]; rfl
            have hbi2 := HBI.out
            rw [hdr] at hbi2
            have i1 : (0 : Int) ≤ (k : Int) := by omega
            have i2 : (k : Int) < (m : Int) := by omega
            generalize l.getD k 0 = to at *
            have HB2 := Lib.hid hbi2
            clear hbi2 hdr hlc HBI
            go_wp2_with fail
            refine Calls.mono (lead_rs HR.out HP.out (by omega) (by omega) (by omega) (by omega) (by omega) (by omega) (by omega) (by omega) (by omega) to (way_lt HF.out to (HB2.out.curw to (List.mem_cons_self ..))) (fun h => (HB2.out.fits HF.out h).1)) ?_
            rintro e w4 ⟨rfl, hrs, hs4, ho4⟩
            have hn4 : ∀ b', b' ≠ w.heap.size + 1 → b' ≠ w.heap.size + 1 + 1 + 1 → w4.heap[b']? = w3.heap[b']? := fun b' h1 h2 => (ho4 b' h1 h2).trans (HOTH.out b' h1 h2)
            have HN4 := Lib.hid hn4
            have HS4 := Lib.hid hs4
            clear hn4 ho4 hs4 hc3
            cases hM : M' to
            · rw [hM, if_neg (by decide)] at hrs
              have HRS := Lib.hid hrs
              have HBP := Lib.hid (HB2.out.push HF.out hM)
              have hu := unmet_upd M' to hM n (way_lt HF.out to (HB2.out.curw to (List.mem_cons_self ..)))
              have HU := Lib.hid hu
              clear hrs hu hM
              go_wp2
              go_roundg (gk - 1)
              case measure => omega
              case rel => exact ⟨k + 1, upd M' to, q' ++ [to], by omega, by go_num, HRS.out, HBP.out, by have := HU.out; have := HFU.out; rw [List.length_append, List.length_singleton]; omega, Nat.le_trans HSZ.out HS4.out, HN4.out⟩
            · rw [hM, if_pos rfl] at hrs
              have HRS := Lib.hid hrs
              have HBP := Lib.hid (HB2.out.skip hM)
              clear hrs hM
              go_wp2
              go_roundg (gk - 1)
              case measure => omega
              case rel => exact ⟨k + 1, M', q', by omega, by go_num, HRS.out, HBP.out, HFU.out, Nat.le_trans HSZ.out HS4.out, HN4.out⟩
          · obtain rfl : k = m := by omega
            have hd : l.drop k = [] := List.drop_eq_nil_iff.2 (by have := HML.out; omega)
            have hbi := HBI.out
            rw [hd] at hbi
            have HB2 := Lib.hid hbi
            clear hbi hd HBI
            go_wp2
            go_roundg (G - 1)
            case measure => have := HFU.out; omega
            case rel => exact ⟨M', q', HR.out, HB2.out, by have := HFU.out; omega, HSZ.out⟩
end Go.Proofs.Ytmndolojfdekdaa
