/-
  Layer 27: is a word loaded on each way to an instruction that asks one? (paths.loaded)
-/
import Derived.Test.YtmndolojfdekdaaWya
import Derived.Test.YtmndolojfdekdaaFd
import Derived.Test.YtmndolojfdekdaaFc
import Derived.Test.YtmndolojfdekdaaRw
namespace Go.Proofs.Ytmndolojfdekdaa
open Go.RowKit Go.Shelf
set_option linter.unusedVariables false

/-- The places to which some way leads that loads none, when k places were looked at. -/
def lodS (g : Nat → IV) : Nat → Nat → Bool
  | 0 => fun j => j == 0
  | k + 1 => fun j => lodS g k j || (lodS g k k && !(kd (g k) == 1) && (nexts (g k) k).contains j)
def lodBad (g : Nat → IV) (k : Nat) : Bool := lodS g k k && (kd (g k) == 21 || brK (kd (g k)))
def loadB (g : Nat → IV) (n : Nat) : Bool := (List.range n).all fun k => !lodBad g k
theorem loadB_no {g : Nat → IV} {n k : Nat} (hk : k < n) (h : lodBad g k = true) : loadB g n = false := by
  unfold loadB
  rw [List.all_eq_false]
  exact ⟨k, List.mem_range.2 hk, by rw [h]; simp⟩
theorem loadB_yes {g : Nat → IV} {n : Nat} (h : ∀ k, k < n → lodBad g k = false) : loadB g n = true := by
  unfold loadB
  rw [List.all_eq_true]
  exact fun k hk => by rw [h k (List.mem_range.1 hk)]; rfl
theorem lodS_same {g : Nat → IV} {k : Nat} (h : (lodS g k k && !(kd (g k) == 1)) = false) : lodS g (k + 1) = lodS g k := by
  funext j
  show (lodS g k j || (lodS g k k && !(kd (g k) == 1) && (nexts (g k) k).contains j)) = _
  rw [h]
  simp
/-- What an instruction of a plain program is. -/
def okI (v : IV) : Bool := !xx v && mayS (kd v)
theorem okI_15 {v : IV} (h : okI v = true) : kd v ≠ 15 := fun e => by
  unfold okI at h
  rw [e] at h
  simp [mayS, brK] at h
/-- A row of bools. -/
def bolRow (n : Nat) (S : Nat → Bool) : Array Value := ((List.range n).map fun i => Value.bool (S i)).toArray
theorem bolRow_at (n : Nat) (S : Nat → Bool) (i : Nat) (hi : i < n) : (bolRow n S)[i]? = some (.bool (S i)) := by simp [bolRow, hi]
theorem bolRow_set (n : Nat) (S : Nat → Bool) (x : Nat) (v : Bool) : (bolRow n S).setIfInBounds x (.bool v) = bolRow n fun i => if i = x then v else S i := by
  apply Array.ext_getElem?
  intro i
  rw [Array.getElem?_setIfInBounds]
  by_cases h : x = i
  · subst h
    rw [if_pos rfl]
    by_cases hn : x < n
    · simp [bolRow, hn]
    · simp [bolRow, hn]
  · rw [if_neg h]
    by_cases hn : i < n
    · have hne : ¬ i = x := fun e => h e.symm
      simp [bolRow, hn, hne]
    · simp [bolRow, hn]
theorem infoBl : (Try.prog.info? 4).map (fun i => (i.zero, i.size, i.bytes)) = some (some (.bool false), 1, 1) := by kernel_rfl
theorem mk_bols (n : Nat) (hn : n ≤ 4096) (W : World) : (Instr.makeSlice 25 (.int .i64 (n : Int)) (.int .i64 (n : Int))).run Try.prog W = .ok (.slice (some ⟨W.heap.size, 0, none⟩) n n) (W.alloc (.cells (bolRow n fun _ => false) 4)) := by
  obtain ⟨i0, hi0, hz0, hz1, hz2⟩ := info_parts infoBl
  have hr := run_make (P := Try.prog) W 25 4 i0 _ Try.underlying25 hi0 hz0 .i64 .i64 n n (by omega) (Int.le_refl _) (by rw [hz2]; omega) (by omega)
  rw [hz1] at hr
  simp only [Int.toNat_natCast] at hr
  have e : madeCells (Value.bool false).cells (n * 1) = bolRow n fun _ => false := by
    rw [Nat.mul_one]
    apply Array.ext_getElem?
    intro i
    by_cases hi : i < n
    · simp [madeCells, bolRow, hi, Value.cells, Nat.mod_one]
    · simp [madeCells, bolRow, hi, Value.cells]
  rw [e] at hr
  exact hr
theorem plc_at {w : World} {B n c : Nat} {A : Option Addr} {g : Nat → IV} (h : Cel w B 6 A n c (fcell g)) {k : Nat} (hk : k < n) {v : IV} (hv : g k = v) : ∃ b off, A = some ⟨b, off, none⟩ ∧ b < B ∧
    w.cell? ⟨b, off + k * 6, none⟩ = some (.int .u16 v.c) ∧ w.cell? ⟨b, off + k * 6 + 1, none⟩ = some (.int .u8 v.t) ∧ w.cell? ⟨b, off + k * 6 + 2, none⟩ = some (.int .u8 v.f) ∧ w.cell? ⟨b, off + k * 6 + 3, none⟩ = some (.int .u32 v.k) ∧ w.cell? ⟨b, off + k * 6 + 4, none⟩ = some (.int .i64 (kd v)) ∧ w.cell? ⟨b, off + k * 6 + 5, none⟩ = some (.int .i64 k) := by
  obtain ⟨b, off, rfl, hb, hc⟩ := h.at_ (by omega)
  have hj : ∀ j, j < 6 → w.cell? ⟨b, off + k * 6 + j, none⟩ = some ((flA v k).getD j undef) := fun j hj => by
    rw [Nat.add_assoc, hc _ (by omega), fcell_at g k j hj, hv]
  exact ⟨b, off, rfl, hb, hj 0 (by decide), hj 1 (by decide), hj 2 (by decide), hj 3 (by decide), hj 4 (by decide), hj 5 (by decide)⟩
set_option maxRecDepth 100000 in
set_option maxHeartbeats 16000000 in
theorem loaded_any (A : Option Addr) (n c : Nat) (g : Nat → IV) (w : World) (hF : Fmd g n) (hP : Cel w w.heap.size 6 A n c (fcell g)) (hv : ∀ i, i < n → (g i).ok) (hk : ∀ i, i < n → okI (g i) = true) :
    Calls Try.prog 67 #[.slice A n c] w fun e w' => e = .returned (.bool (loadB g n)) ∧ Below w.heap.size w w' := by
  have HF := Lib.hid hF
  have HP := Lib.hid hP
  have HV := Lib.hid hv
  have HK := Lib.hid hk
  have hmk := mk_bols n hF.le
  have hn0 : (0 : Int) < (n : Int) := by have := hF.pos; omega
  have i0 : (0 : Int) ≤ 0 := Int.le_refl _
  have hr0 : RowC (w.alloc (.cells (bolRow n fun _ => false) 4)) w.heap.size (bolRow n fun _ => false) 4 := RowC.new _ _ _ _ rfl
  have HB0 : Hid (Below w.heap.size w (w.alloc (.cells (bolRow n fun _ => false) 4))) := Lib.hid ((Below.refl _ _).alloc (Nat.le_refl _) _)
  have HR0 := Lib.hid hr0
  have p0 := hr0.cell 0 _ (bolRow_at n _ 0 hF.pos)
  have f0 := hr0.frozen 0
  have hle := hF.le
  clear hr0 hF hP hv hk
  go_enter Try.func67, Try.ntmps67
  go_wp2
  clear hmk
  go_loopw [15] (fun i wr => ∃ k : Nat, k ≤ n ∧ i = .int .i64 k ∧ Below w.heap.size w wr ∧ Hid (RowC wr w.heap.size (bolRow n (lodS g k)) 4) ∧ Hid (∀ j, j < k → lodBad g j = false))
    (fun i _ => n - (intOf i).toNat)
  case atStart => exact ⟨0, Nat.zero_le _, rfl, (Below.refl _ _).alloc (Nat.le_refl _) _, Lib.hid (by
      have e : (fun i => if i = 0 then true else (fun _ => false) i) = lodS g 0 := by
        funext i
        show (if i = 0 then true else false) = (i == 0)
        by_cases h : i = 0 <;> simp [h]
      rw [bolRow_set, e]
      exact RowC.new _ _ _ _ rfl), Lib.hid fun j hj => by omega⟩
  case round =>
    clear HB0 HR0 p0 f0
    obtain ⟨k, hk, rfl, hB, HR, HNO⟩ := hrel
    by_cases hlt : k < n
    · obtain ⟨v, hv⟩ : ∃ v, g k = v := ⟨_, rfl⟩
      obtain ⟨b, o, rfl, hbl, q0, q1, q2, q3, q4, q5⟩ := plc_at (HP.out.below hB) hlt hv
      have i1 : (0 : Int) ≤ (k : Int) := by omega
      have i2 : (k : Int) < (n : Int) := by omega
      have hok : v.ok := by rw [← hv]; exact HV.out k hlt
      have hoi : okI v = true := by rw [← hv]; exact HK.out k hlt
      have HLB : Hid (lodBad g k = (lodS g k k && (kd v == 21 || brK (kd v)))) := Lib.hid (by rw [← hv]; rfl)
      have HLS : Hid ((lodS g k k && !(kd v == 1)) = false → lodS g (k + 1) = lodS g k) := Lib.hid fun h => lodS_same (by rw [hv]; exact h)
      have HLN : Hid (∀ j, lodS g (k + 1) j = (lodS g k j || (lodS g k k && !(kd v == 1) && (nexts v k).contains j))) := Lib.hid fun j => by rw [← hv]; rfl
      have HNX : Hid (∀ to ∈ nexts v k, to < n) := Lib.hid fun to h => next_lt HF.out hlt (by rw [hv]; exact h)
      have HL : Hid (∀ W, Calls Try.prog 69 #[.agg #[.int .u16 v.c, .int .u8 v.t, .int .u8 v.f, .int .u32 v.k, .int .i64 (kd v), .int .i64 (k : Int)]] W fun e w' => ∃ A m, e = .returned (.slice A m m) ∧ I64s w' W.heap.size A m (nexts v k) ∧ Below W.heap.size W w') := Lib.hid (fun W => pleads_any v hok (okI_15 hoi) k W (by omega))
      have HIB := Lib.hid fun W => isBranch_any (kd v) W
      obtain ⟨S, hS⟩ : ∃ S, lodS g k = S := ⟨_, rfl⟩
      rw [hS] at HR HLB HLS HLN
      have HR2 := Lib.hid (HR.out.alloc (.cells #[.int .u16 v.c, .int .u8 v.t, .int .u8 v.f, .int .u32 v.k, .int .i64 (kd v), .int .i64 (k : Int)] 133))
      have HB2 := Lib.hid (hB.alloc hB.size (.cells #[.int .u16 v.c, .int .u8 v.t, .int .u8 v.f, .int .u32 v.k, .int .i64 (kd v), .int .i64 (k : Int)] 133))
      have hrx : RowC (wr.alloc (.cells #[.int .u16 v.c, .int .u8 v.t, .int .u8 v.f, .int .u32 v.k, .int .i64 (kd v), .int .i64 (k : Int)] 133)) wr.heap.size #[.int .u16 v.c, .int .u8 v.t, .int .u8 v.f, .int .u32 v.k, .int .i64 (kd v), .int .i64 (k : Int)] 133 := RowC.new _ _ _ _ rfl
      have d4 := hrx.cell 4 _ rfl
      have s0 := HR2.out.cell k _ (bolRow_at n S k hlt)
      have HRX := Lib.hid hrx
      obtain ⟨ll, hll⟩ : ∃ ll, nexts v k = ll := ⟨_, rfl⟩
      rw [hll] at HL HNX HLN
      clear hrx hv hok hoi hll
      generalize kd v = K at *
      cases hSk : S k
      · rw [hSk] at s0 HLS HLB HLN
        as_aux_lemma =>
          go_wp2
          exact ⟨⟨k + 1, by omega, by go_num, HB2.out, by rw [HLS.out rfl]; exact HR2, Lib.hid fun j hj => by
            by_cases e : j = k
            · subst e; rw [HLB.out]; rfl
            · exact HNO.out j (by omega)⟩, by simp [intOf]; omega⟩
      · rw [hSk] at s0 HLS HLB HLN
        cases h1 : (K == 1)
        · rw [h1] at HLS HLN
          cases h21 : (K == 21)
          · rw [h21] at HLB
            cases hbr : brK K
            · rw [hbr] at HIB HLB
              as_aux_lemma =>
                go_wp2_with fail
                refine (HIB.out _).mono ?_
                rintro e w9 ⟨rfl, rfl⟩
                go_wp2_with fail
                refine (HL.out _).mono ?_
                rintro e w4 ⟨lA, m, rfl, ⟨hml, hcel, hblk⟩, hB4⟩
                have HML := Lib.hid hml
                have HCEL := Lib.hid hcel
                have HBLK := Lib.hid hblk
                have HB4 := Lib.hid (HB2.out.trans (hB4.mono HB2.out.size))
                have HR4 := Lib.hid (HR2.out.below hB4 HR2.out.lt)
                clear hml hcel hblk hB4
                go_wp2
                clear d4 s0 q0 q1 q2 q3 q4 q5
                go_loopw [43] (fun i w5 => ∃ q : Nat, q ≤ m ∧ i = .int .i64 q ∧ But w.heap.size w4 w5 ∧ Hid (RowC w5 w.heap.size (bolRow n fun j => S j || (ll.take q).contains j) 4))
                  (fun i _ => m - (intOf i).toNat)
                case atStart => exact ⟨0, Nat.zero_le _, rfl, But.refl _ _, by simpa using HR4⟩
                case round =>
                  obtain ⟨q, hq, rfl, hBu, HR5⟩ := hrel
                  have HBU := Lib.hid hBu
                  obtain ⟨_, hm2⟩ := HCEL.out.le
                  unfold maxLen at hm2
                  by_cases hq2 : q < m
                  · obtain ⟨lb, lo, rfl, hlb, hlc⟩ := HCEL.out.at_ (by omega)
                    have hne : lb ≠ w.heap.size := by
                      have h1 := HBLK.out _ rfl
                      have h2 := HR2.out.lt
                      simp at h1 h2
                      omega
                    have hc3 := (hBu.cell (p := ⟨lb, lo + q, none⟩) hlb hne).trans (hlc q (by omega))
                    have HTK : Hid (ll.take (q + 1) = ll.take q ++ [ll.getD q 0]) := Lib.hid (by
                      have := HML.out
                      rw [List.take_add_one, List.getD_eq_getElem?_getD, List.getElem?_eq_getElem (by omega)]; rfl)
                    have hto : ll.getD q 0 < n := HNX.out _ (by
                      have := HML.out
                      rw [List.getD_eq_getElem?_getD, List.getElem?_eq_getElem (by omega)]; exact List.getElem_mem _)
                    generalize ll.getD q 0 = to at *
                    have e0 := HR5.out.cell to _ (bolRow_at n _ to hto)
                    have f0 := HR5.out.frozen to
                    have i3 : (0 : Int) ≤ (q : Int) := by omega
                    have i4 : (q : Int) < (m : Int) := by omega
                    have i5 : (0 : Int) ≤ (to : Int) := by omega
                    have i6 : (to : Int) < (n : Int) := by omega
                    clear hlc hBu hne
                    go_wp2
                    exact ⟨⟨q + 1, by omega, by go_num, HBU.out.set to _, Lib.hid (by
                      have h := HR5.out.set to (.bool true)
                      rw [bolRow_set] at h
                      have e : (fun i => if i = to then true else (S i || (ll.take q).contains i)) = fun j => S j || (ll.take (q + 1)).contains j := by
                        funext j
                        rw [HTK.out]
                        by_cases hj : j = to
                        · subst hj; simp
                        · simp [hj]
                      rw [e] at h
                      exact h)⟩, by simp [intOf]; omega⟩
                  · obtain rfl : q = m := by omega
                    clear hBu
                    have hfin : Hid (RowC wr w.heap.size (bolRow n (lodS g (k + 1))) 4) := Lib.hid (by
                      have h := HR5.out
                      rw [List.take_of_length_le (by rw [HML.out]; exact Nat.le_refl _)] at h
                      have e : (fun j => S j || ll.contains j) = lodS g (k + 1) := by
                        funext j
                        rw [HLN.out]
                        simp
                      rw [e] at h
                      exact h)
                    go_wp2
                    exact ⟨⟨k + 1, by omega, by go_num, HBU.out.below HB4.out HB4.out.size (Nat.le_refl _), hfin, Lib.hid fun j hj => by
                      by_cases e : j = k
                      · subst e; rw [HLB.out]; rfl
                      · exact HNO.out j (by omega)⟩, by simp [intOf]; omega⟩
            · rw [hbr] at HIB HLB
              as_aux_lemma =>
                go_wp2_with (go_at_call 72; refine (HIB.out _).mono ?_; rintro e w9 ⟨rfl, rfl⟩)
                go_ret
                exact ⟨by rw [loadB_no hlt (by rw [HLB.out]; rfl)]; rfl, HB2.out⟩
          · rw [h21] at HLB
            as_aux_lemma =>
              go_wp2
              go_ret
              exact ⟨by rw [loadB_no hlt (by rw [HLB.out]; rfl)]; rfl, HB2.out⟩
        · rw [h1] at HLS
          have n21 : (K == 21) = false := by
            have e : K = 1 := by simpa using h1
            subst e; rfl
          have nbr : brK K = false := by
            have e : K = 1 := by simpa using h1
            subst e; rfl
          rw [n21, nbr] at HLB
          as_aux_lemma =>
            go_wp2
            exact ⟨⟨k + 1, by omega, by go_num, HB2.out, by rw [HLS.out rfl]; exact HR2, Lib.hid fun j hj => by
              by_cases e : j = k
              · subst e; rw [HLB.out]; rfl
              · exact HNO.out j (by omega)⟩, by simp [intOf]; omega⟩
    · obtain rfl : k = n := by omega
      have HB2 := Lib.hid hB
      clear hB
      go_wp2
      go_ret
      exact ⟨by rw [loadB_yes HNO.out]; rfl, HB2.out⟩
end Go.Proofs.Ytmndolojfdekdaa
