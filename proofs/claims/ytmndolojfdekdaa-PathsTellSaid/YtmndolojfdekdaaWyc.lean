/-
  Layer 27: the places of a plain program; none of another one. (paths.placesOf, paths.Plain)
-/
import Derived.Test.YtmndolojfdekdaaWyb
import Derived.Test.YtmndolojfdekdaaFh
namespace Go.Proofs.Ytmndolojfdekdaa
open Go.RowKit Go.Shelf
set_option linter.unusedVariables false

theorem infoPl : (Try.prog.info? 133).map (fun i => (i.zero, i.size, i.bytes)) = some (some (.agg #[.int .u16 0, .int .u8 0, .int .u8 0, .int .u32 0, .int .i64 0, .int .i64 0]), 6, 24) := by kernel_rfl
theorem mk_pls (m : Nat) (hm : m ≤ 4096) (w : World) : ∃ W', (Instr.makeSlice 101 (.int .i64 (m : Int)) (.int .i64 (m : Int))).run Try.prog w = .ok (.slice (some ⟨w.heap.size, 0, none⟩) m m) W' ∧
    OwnC W' w.heap.size 133 6 (some ⟨w.heap.size, 0, none⟩) m m fzero ∧ Below w.heap.size w W' := by
  obtain ⟨i0, hi0, hz0, hz1, hz2⟩ := info_parts infoPl
  have hr := run_make (P := Try.prog) w 101 133 i0 _ Try.underlying101 hi0 hz0 .i64 .i64 m m (by omega) (Int.le_refl _) (by rw [hz2]; omega) (by omega)
  rw [hz1] at hr
  simp only [Int.toNat_natCast] at hr
  refine ⟨_, hr, ?_, (Below.refl _ _).alloc (Nat.le_refl _) _⟩
  have hl := World.ownsRow_lit (base := w.heap.size) (e := 133) (size := 6) w (madeCells (Value.agg #[.int .u16 0, .int .u8 0, .int .u8 0, .int .u32 0, .int .i64 0, .int .i64 0]).cells (m * 6)) m (Nat.le_refl _) (by unfold maxLen; omega) (size_madeCells _ _)
  have e : (madeCells (Value.agg #[.int .u16 0, .int .u8 0, .int .u8 0, .int .u32 0, .int .i64 0, .int .i64 0]).cells (m * 6)).toList = (List.range (m * 6)).map fzero := by
    apply List.ext_getElem (by simp [madeCells])
    intro i h1 h2
    simp only [madeCells, Value.cells, Array.getElem_toList, Array.getElem_map, Array.getElem_range, List.getElem_map, List.getElem_range]
    unfold fzero
    have h7 : i % 6 = 0 ∨ i % 6 = 1 ∨ i % 6 = 2 ∨ i % 6 = 3 ∨ i % 6 = 4 ∨ i % 6 = 5 := by omega
    rcases h7 with h | h | h | h | h | h <;> simp [h]
  rw [e] at hl
  exact hl
def plainB (g : Nat → IV) (n : Nat) : Bool := decide ((checkF g n).2 = 0) && ((List.range n).all (fun i => okI (g i)) && loadB g n)
theorem plainB_kind {g : Nat → IV} {n k : Nat} (hk : k < n) (h : okI (g k) = false) : plainB g n = false := by
  unfold plainB
  have : ((List.range n).all fun i => okI (g i)) = false := by
    rw [List.all_eq_false]
    exact ⟨k, List.mem_range.2 hk, by rw [h]; simp⟩
  rw [this]
  simp
theorem plainB_of {g : Nat → IV} {n : Nat} (hc : (checkF g n).2 = 0) (h : ∀ i, i < n → okI (g i) = true) : plainB g n = loadB g n := by
  unfold plainB
  have : ((List.range n).all fun i => okI (g i)) = true := by
    rw [List.all_eq_true]
    exact fun i hi => h i (List.mem_range.1 hi)
  rw [this, decide_eq_true hc]
  simp
theorem plainB_facts {g : Nat → IV} {n : Nat} (h : plainB g n = true) : Fmd g n ∧ (∀ i, i < n → okI (g i) = true) ∧ loadB g n = true := by
  unfold plainB at h
  simp only [Bool.and_eq_true, decide_eq_true_eq, List.all_eq_true] at h
  obtain ⟨f0, f1, f2, f3⟩ := checkF_facts h.1
  exact ⟨⟨f0, f1, f2, f3⟩, fun i hi => h.2.1 i (List.mem_range.2 hi), h.2.2⟩
/-- What placesOf tells. -/
def PlsR (g : Nat → IV) (n : Nat) (w : World) (e : Ending) (w' : World) : Prop := (plainB g n = false ∧ e = .returned (.slice none 0 0)) ∨ (plainB g n = true ∧ ∃ b, e = .returned (.slice (some ⟨b, 0, none⟩) n n) ∧ OwnC w' w.heap.size 133 6 (some ⟨b, 0, none⟩) n n (fcell g))
set_option maxRecDepth 100000 in
set_option maxHeartbeats 16000000 in
theorem placesOf_any (A : Option Addr) (n c : Nat) (g : Nat → IV) (w : World) (hr : Ins w w.heap.size A n c g) :
    Calls Try.prog 45 #[.slice A n c] w fun e w' => PlsR g n w e w' ∧ Below w.heap.size w w' := by
  by_cases he : (checkF g n).2 = 0
  · have HC := Lib.hid (check_any A n c g w hr)
    have HR := Lib.hid hr
    obtain ⟨h0, h1, h2, h3⟩ := checkF_facts he
    have HF := Lib.hid (⟨h0, h1, h2, h3⟩ : Fmd g n)
    have HE := Lib.hid he
    clear hr he h2 h3
    go_enter Try.func45, Try.ntmps45
    go_wp2_with fail
    refine (HC.out).mono ?_
    rw [HE.out]
    generalize (checkF g n).1 = z1
    rintro e w1 ⟨rfl, hB1⟩
    have hz1 := hB1.size
    obtain ⟨w2, hmk, hown2, hB2⟩ := mk_pls n h1 w1
    have ho2 : OwnC w2 w1.heap.size 133 6 (some ⟨w1.heap.size, 0, none⟩) n n (partF g 0) := hown2.congr (fun i _ => by unfold partF; rw [if_neg (by omega)])
    have HR1 := Lib.hid ((HR.out.below hB1).more hB1.size)
    clear hown2
    go_wp2_with fail
    go_loopw [23] (fun i wr => ∃ k : Nat, k ≤ n ∧ i = .int .i64 k ∧ OwnC wr w1.heap.size 133 6 (some ⟨w1.heap.size, 0, none⟩) n n (partF g k) ∧ Below w1.heap.size w1 wr ∧ Hid (∀ j, j < k → okI (g j) = true))
      (fun i _ => n - (intOf i).toNat)
    case atStart => exact ⟨0, Nat.zero_le _, rfl, ho2, hB2, Lib.hid fun j hj => by omega⟩
    case round =>
      obtain ⟨k, hk, rfl, hown, hB, HOI⟩ := hrel
      clear ho2 hB2 hmk
      have hs := hB.size
      by_cases hlt : k < n
      · have hv := HR.out.2 k hlt
        obtain ⟨b, off, rfl, hb, hc⟩ := (HR1.out.below hB).at_ (by omega)
        obtain ⟨q0, q1, q2, q3⟩ := hc k hlt
        have HV := Lib.hid hv
        have HST := Lib.hid (partF_step g k)
        obtain ⟨v, hgv⟩ : ∃ v, g k = v := ⟨_, rfl⟩
        have HGV := Lib.hid hgv
        rw [hgv] at q0 q1 q2 q3 HV HST
        have i1 : (0 : Int) ≤ (k : Int) := by omega
        have i2 : (k : Int) < (n : Int) := by omega
        clear hc hv hgv
        go_wp2_with fail
        refine (of_v v HV.out _).mono ?_
        rintro e w3 ⟨xb, rfl, hB3⟩
        obtain ⟨r0, r1, r2, r3⟩ := cell4 _ _ _ _ _ _ _ hB3
        have hb3 := (hB.alloc hs _).trans (hB3.mono (by simp; omega))
        have ho3 := (hown.alloc _).below hB3 (Nat.le_refl _)
        have HMS := Lib.hid (mayStand_any (kd v) w3)
        have HOK : Hid (okI v = (!xx v && mayS (kd v))) := Lib.hid rfl
        have HO3 := Lib.hid ho3
        have HB3 := Lib.hid hb3
        clear hB3 hb3 ho3 hown hB q0 q1 q2 q3
        generalize xx v = bx at *
        generalize kd v = K at *
        cases bx
        · cases hms : mayS K
          · rw [hms] at HMS HOK
            clear hms
            as_aux_lemma =>
              go_wp2_with fail
              refine HMS.out.mono ?_
              rintro e w9 ⟨rfl, rfl⟩
              go_wp2
              go_ret
              exact ⟨.inl ⟨plainB_kind hlt (by rw [HGV.out, HOK.out]; rfl), rfl⟩, hB1.trans (HB3.out.mono hz1)⟩
          · rw [hms] at HMS HOK
            clear hms
            obtain ⟨bb, eb, hbb, _, hcs⟩ := HO3.out.at_ h0
            obtain rfl : w1.heap.size = bb := by injection eb with eb; injection eb
            obtain ⟨p0, f0⟩ := hcs (k * 6) (by omega)
            obtain ⟨p1, f1⟩ := hcs (k * 6 + 1) (by omega)
            obtain ⟨p2, f2⟩ := hcs (k * 6 + 2) (by omega)
            obtain ⟨p3, f3⟩ := hcs (k * 6 + 3) (by omega)
            obtain ⟨p4, f4⟩ := hcs (k * 6 + 4) (by omega)
            obtain ⟨p5, f5⟩ := hcs (k * 6 + 5) (by omega)
            clear hcs eb
            go_wp2_with fail
            refine HMS.out.mono ?_
            rintro e w9 ⟨rfl, rfl⟩
            go_wp2
            refine ⟨⟨k + 1, by omega, by go_num, ((((((HO3.out.set_ _).set_ _).set_ _).set_ _).set_ _).set_ _).congr (fun i _ => HST.out i), ?_, Lib.hid fun j hj => ?_⟩, by simp [intOf]; omega⟩
            · exact (((((HB3.out.setCell (p := ⟨w1.heap.size, k * 6, none⟩) (Nat.le_refl _) _).setCell (p := ⟨w1.heap.size, k * 6 + 1, none⟩) (Nat.le_refl _) _).setCell (p := ⟨w1.heap.size, k * 6 + 2, none⟩) (Nat.le_refl _) _).setCell (p := ⟨w1.heap.size, k * 6 + 3, none⟩) (Nat.le_refl _) _).setCell (p := ⟨w1.heap.size, k * 6 + 4, none⟩) (Nat.le_refl _) _).setCell (p := ⟨w1.heap.size, k * 6 + 5, none⟩) (Nat.le_refl _) _
            · by_cases e : j = k
              · subst e; rw [HGV.out, HOK.out]; rfl
              · exact HOI.out j (by omega)
        · as_aux_lemma =>
            go_wp2
            go_ret
            exact ⟨.inl ⟨plainB_kind hlt (by rw [HGV.out, HOK.out]; rfl), rfl⟩, hB1.trans (HB3.out.mono hz1)⟩
      · obtain rfl : k = n := by omega
        have ho : OwnC wr w1.heap.size 133 6 (some ⟨w1.heap.size, 0, none⟩) k k (fcell g) := hown.congr (fun i hi => by unfold partF; rw [if_pos hi])
        have HLD := Lib.hid (loaded_any _ k k g wr HF.out ho.cel HR.out.2 HOI.out)
        have HPB := Lib.hid (plainB_of HE.out HOI.out)
        have HO := Lib.hid (ho.lower hz1)
        have HB := Lib.hid (hB1.trans (hB.mono hz1))
        clear ho hown hB hB1
        generalize loadB g k = q at *
        cases q
        · go_wp2_with (go_at_call 67; refine HLD.out.mono ?_; rintro e w5 ⟨rfl, hB5⟩)
          go_ret
          exact ⟨.inl ⟨HPB.out, rfl⟩, HB.out.trans (hB5.mono HB.out.size)⟩
        · go_wp2_with (go_at_call 67; refine HLD.out.mono ?_; rintro e w5 ⟨rfl, hB5⟩)
          go_ret
          exact ⟨.inr ⟨HPB.out, _, rfl, HO.out.below hB5 (Nat.le_refl _)⟩, HB.out.trans (hB5.mono HB.out.size)⟩
  · have HC := Lib.hid (check_any A n c g w hr)
    have hpb : plainB g n = false := by unfold plainB; rw [decide_eq_false he]; rfl
    obtain ⟨a, b⟩ : ∃ z, checkF g n = z := ⟨_, rfl⟩
    rw [b] at HC he
    obtain ⟨x, y⟩ := a
    have t1 : ((y : Int) != 0) = true := by simpa using he
    clear hr he b
    go_enter Try.func45, Try.ntmps45
    go_wp2_with (go_at_call 54; refine (HC.out).mono ?_; rintro e w1 ⟨rfl, hB1⟩)
    go_ret
    exact ⟨.inl ⟨hpb, rfl⟩, hB1⟩
end Go.Proofs.Ytmndolojfdekdaa
