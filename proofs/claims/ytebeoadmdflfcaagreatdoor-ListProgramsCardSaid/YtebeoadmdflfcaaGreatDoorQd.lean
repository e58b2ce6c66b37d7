/-
  The document's Words.
-/
import Derived.Test.YtebeoadmdflfcaaGreatDoorQc
import Derived.Test.YtebeoadmdflfcaaGreatDoorPi
namespace Go.Proofs.YtebeoadmdflfcaaGreatDoor
open Go.RowKit Go.Shelf
set_option linter.unusedVariables false

theorem wdF_out : ∀ (l w : List UInt8) (out : List (List UInt8)), wdF l w out = out ++ wdF l w [] := by
  have hp : ∀ (out : List (List UInt8)) (w : List UInt8), psh out w = out ++ psh [] w := fun out w => by
    by_cases h : w = []
    · subst h; show out = out ++ []; simp
    · rw [psh_ne _ h, psh_ne _ h]; rfl
  intro l
  induction l with
  | nil => intro w out; exact hp out w
  | cons b t ih =>
    intro w out
    rw [wdF, wdF]
    by_cases hb : blk b = true
    · rw [if_pos hb, if_pos hb, ih, ih [] (psh [] w), hp, List.append_assoc]
    · rw [if_neg hb, if_neg hb, ih]
theorem wds_blank (b : UInt8) (l : List UInt8) (hb : blk b = true) : wds (b :: l) = wds l := by
  unfold wds
  rw [wdF, if_pos hb]
  rfl
theorem wds_word (x r : List UInt8) (hx : x ≠ []) (hn : ∀ b ∈ x, blk b = false) (hr : ∀ b, r.head? = some b → blk b = true) : wds (x ++ r) = x :: wds r := by
  unfold wds
  rw [wdF_app x r [] [] hn, List.nil_append]
  cases r with
  | nil =>
    show psh [] x = _
    rw [psh_ne _ hx]
    rfl
  | cons b t =>
    rw [wdF, if_pos (hr b rfl), psh_ne _ hx, wdF_out, wdF, if_pos (hr b rfl)]
    rfl
theorem blk_nat (b : UInt8) : blk b = (decide (b.toNat = 32) || decide (b.toNat = 9) || decide (b.toNat = 13)) := blk_iff b
theorem infoS : (Tryz.prog.info? 9).map (fun i => (i.zero, i.size, i.bytes)) = some (some (.string ⟨#[]⟩), 1, 16) := by kernel_rfl
def scell (L : List (List UInt8)) (i : Nat) : Value := .string ⟨(L.getD i []).toArray⟩
theorem scell_cat (L : List (List UInt8)) (x : List UInt8) : ∀ i, i < (L.length + 1) * 1 → catC (L.length * 1) (scell L) (scell [x]) i = scell (L ++ [x]) i := fun i hi => by
  unfold catC scell
  by_cases h : i < L.length * 1
  · rw [if_pos h, List.getD_eq_getElem?_getD, List.getD_eq_getElem?_getD, List.getElem?_append_left (by omega)]
  · rw [if_neg h, List.getD_eq_getElem?_getD, List.getD_eq_getElem?_getD, List.getElem?_append_right (by omega), show i - L.length * 1 = i - L.length by omega]
theorem one_str (w : World) (x : List UInt8) (E : TypeId) : Cel (w.alloc (.cells #[.string ⟨x.toArray⟩] E)) (w.heap.size + 1) 1 (some ⟨w.heap.size, 0, none⟩) 1 1 (scell [x]) :=
  Cel.mk_ (by omega) (by decide) (by decide) (fun i hi => by
    obtain rfl : i = 0 := by omega
    simp [scell])
/-- The told part of a line. -/
theorem cut_part (l : List UInt8) : ∃ R, l = (Lib.cut l [59]).1 ++ R ∧ (∀ c ∈ (Lib.cut l [59]).1, c ≠ 59) ∧ (R = [] ∨ R.head? = some 59) := by
  rcases cut_one l 59 with ⟨h1, h2⟩ | ⟨a, r, h1, h2, h3⟩
  · rw [h2]; exact ⟨[], by simp, h1, .inl rfl⟩
  · rw [h3]; exact ⟨59 :: r, h1, h2, .inr rfl⟩
set_option maxRecDepth 100000 in
set_option maxHeartbeats 16000000 in
theorem refWords_any (s : ByteArray) (hs : s.size ≤ 100000) (w : World) :
    Calls Tryz.prog 16 #[.string s] w fun e w' => ∃ A c, e = .returned (.slice A (wsOf s.data.toList).length c) ∧ Cel w' w'.heap.size 1 A (wsOf s.data.toList).length c (scell (wsOf s.data.toList)) ∧ Below w.heap.size w w' := by
  have hlen : s.data.toList.length = s.size := Array.length_toList
  have hse : s = ⟨s.data.toList.toArray⟩ := ByteArray.ext (by simp)
  obtain ⟨l, hl⟩ : ∃ l, s.data.toList = l := ⟨_, rfl⟩
  have HIX : Hid (∀ (p : Nat) (b : UInt8), l[p]? = some b → ∀ W, (Instr.index 9 (.string s) (.int .i64 p)).run Tryz.prog W = .ok (.int .u8 b.toNat) W) := Lib.hid fun p b h W => ixQ s p b (by rw [hl]; exact h) W
  have HEX : Hid (∀ a b, s.extract a b = ⟨((l.drop a).take (b - a)).toArray⟩) := Lib.hid fun a b => by
    conv => lhs; rw [hse]
    rw [hl, txt_extract]
  rw [hl] at hlen ⊢
  clear hl hse
  obtain ⟨R, hR1, hR2, hR3⟩ := cut_part l
  unfold wsOf
  obtain ⟨L, hL⟩ : ∃ L, (Lib.cut l [59]).1 = L := ⟨_, rfl⟩
  rw [hL] at hR1 hR2 ⊢
  clear hL
  have hLs : L.length ≤ s.size := by rw [← hlen, hR1, List.length_append]; omega
  -- what stands at a place of the told part, and behind it
  have HAT : Hid (∀ q, q < L.length → ∃ b, L[q]? = some b ∧ l[q]? = some b ∧ b.toNat ≠ 59) := Lib.hid fun q hq => by
    refine ⟨L[q], List.getElem?_eq_getElem hq, by rw [hR1, List.getElem?_append_left hq]; exact List.getElem?_eq_getElem hq, fun h => ?_⟩
    exact hR2 L[q] (List.getElem_mem hq) (UInt8.toNat_inj.1 (by rw [h]; rfl))
  have HEN : Hid (L.length = s.size ∨ (L.length < s.size ∧ l[L.length]? = some 59)) := Lib.hid (by
    rcases hR3 with h | h
    · left; rw [← hlen, hR1, h, List.append_nil]
    · right
      cases R with
      | nil => cases h
      | cons r R =>
        refine ⟨by rw [← hlen, hR1, List.length_append, List.length_cons]; omega, ?_⟩
        rw [hR1, List.getElem?_append_right (Nat.le_refl _), Nat.sub_self]
        exact h)
  have HDR : Hid (∀ a b, b ≤ L.length → (l.drop a).take (b - a) = (L.drop a).take (b - a)) := Lib.hid fun a b hb => by
    by_cases hab : a ≤ L.length
    · rw [hR1, List.drop_append_of_le_length hab, List.take_append_of_le_length (by rw [List.length_drop]; omega)]
    · rw [show b - a = 0 by omega]; rfl
  clear hR1 hR2 hR3 hlen
  have hLN : L.length ≤ 100000 := by omega
  go_enter Tryz.func16, Tryz.ntmps16
  go_wp2
  go_loopw [3, 4] (fun v i wr => ∃ (q : Nat) (ws : List (List UInt8)) (A : Option Addr) (c : Nat), q ≤ L.length ∧ ws.length ≤ q ∧ wds L = ws ++ wds (L.drop q) ∧ v = .slice A ws.length c ∧ i = .int .i64 q ∧ OwnC wr w.heap.size 9 1 A ws.length c (scell ws) ∧ Below w.heap.size w wr) (fun _ i _ => L.length - (intOf i).toNat)
  case atStart => exact ⟨0, [], none, 0, Nat.zero_le _, Nat.le_refl _, rfl, rfl, rfl, OwnC.nil_, Below.refl _ _⟩
  case round =>
    obtain ⟨q, ws, A, c, hq, hwl, hws, rfl, rfl, hown, hB⟩ := hrel
    have HOW := Lib.hid hown
    have HBR := Lib.hid hB
    have HWS := Lib.hid hws
    clear hown hB hws
    by_cases hlt : q < L.length
    · obtain ⟨b, hbL, hbl, h59⟩ := HAT.out q hlt
      have hix := HIX.out q b hbl
      have g1 : (q : Int) < (s.size : Int) := by omega
      have g2 : (0 : Int) ≤ (q : Int) := by omega
      have g3 : ((b.toNat : Int) != 59) = true := bne_iff_ne.2 (by omega)
      have hdr : L.drop q = b :: L.drop (q + 1) := by
        rw [List.drop_eq_getElem_cons hlt]
        congr 1
        exact (List.getElem?_eq_some_iff.1 hbL).2
      by_cases hbk : blk b = true
      · have HN : Hid (wds L = ws ++ wds (L.drop (q + 1))) := Lib.hid (by rw [HWS.out, hdr, wds_blank b _ hbk])
        have hb3 : b.toNat = 32 ∨ (b.toNat ≠ 32 ∧ b.toNat = 9) ∨ (b.toNat ≠ 32 ∧ b.toNat ≠ 9 ∧ b.toNat = 13) := by
          rw [blk_nat] at hbk
          simp only [Bool.or_eq_true, decide_eq_true_eq] at hbk
          omega
        clear hbk hdr hbL hbl HEN HDR HEX HWS
        rcases hb3 with h | ⟨h1, h2⟩ | ⟨h1, h2, h3⟩
        · have k1 : ((b.toNat : Int) == 32) = true := beq_iff_eq.2 (by omega)
          go_wp2
          exact ⟨⟨q + 1, ws, A, c, by omega, by omega, HN.out, rfl, by go_num, HOW.out, HBR.out⟩, by simp [intOf]; omega⟩
        · have k1 : ((b.toNat : Int) == 32) = false := beq_eq_false_iff_ne.2 (by omega)
          have k2 : ((b.toNat : Int) == 9) = true := beq_iff_eq.2 (by omega)
          go_wp2
          exact ⟨⟨q + 1, ws, A, c, by omega, by omega, HN.out, rfl, by go_num, HOW.out, HBR.out⟩, by simp [intOf]; omega⟩
        · have k1 : ((b.toNat : Int) == 32) = false := beq_eq_false_iff_ne.2 (by omega)
          have k2 : ((b.toNat : Int) == 9) = false := beq_eq_false_iff_ne.2 (by omega)
          have k3 : ((b.toNat : Int) == 13) = true := beq_iff_eq.2 (by omega)
          go_wp2
          exact ⟨⟨q + 1, ws, A, c, by omega, by omega, HN.out, rfl, by go_num, HOW.out, HBR.out⟩, by simp [intOf]; omega⟩
      · have hb3 : b.toNat ≠ 32 ∧ b.toNat ≠ 9 ∧ b.toNat ≠ 13 := by
          rw [blk_nat] at hbk
          simp only [Bool.or_eq_true, decide_eq_true_eq] at hbk
          omega
        have k1 : ((b.toNat : Int) == 32) = false := beq_eq_false_iff_ne.2 (by omega)
        have k2 : ((b.toNat : Int) == 9) = false := beq_eq_false_iff_ne.2 (by omega)
        have k3 : ((b.toNat : Int) == 13) = false := beq_eq_false_iff_ne.2 (by omega)
        have HNB : Hid (blk b = false ∧ L[q]? = some b) := Lib.hid ⟨by simpa using hbk, hbL⟩
        clear hbk hdr hbL hbl
        go_wp2
        go_loopw [5] (fun i wr2 => ∃ r : Nat, q ≤ r ∧ r ≤ L.length ∧ i = .int .i64 r ∧ (∀ y ∈ (L.drop q).take (r - q), blk y = false) ∧ wr2 = wr) (fun i _ => L.length - (intOf i).toNat)
        case atStart => exact ⟨q, Nat.le_refl _, hq, rfl, by simp, rfl⟩
        case round =>
          obtain ⟨r, hqr, hrl, rfl, hd, rfl⟩ := hrel
          have g5 : (q : Int) ≤ (r : Int) := by omega
          have g6 : (r : Int) ≤ (s.size : Int) := by omega
          have g7 : (0 : Int) ≤ (r : Int) := by omega
          have HD := Lib.hid hd
          clear hd
          have hrest : (∃ x, l[r]? = some x ∧ r < L.length ∧ x.toNat ≠ 59 ∧ blk x = false ∧ L[r]? = some x) ∨ (r = L.length ∨ ∃ x, L[r]? = some x ∧ l[r]? = some x ∧ x.toNat ≠ 59 ∧ blk x = true) := by
            by_cases h : r < L.length
            · obtain ⟨x, h1, h2, h3⟩ := HAT.out r h
              cases hx : blk x with
              | false => exact .inl ⟨x, h2, h, h3, hx, h1⟩
              | true => exact .inr (.inr ⟨x, h1, h2, h3, hx⟩)
            · exact .inr (.inl (by omega))
          rcases hrest with ⟨x, hxl, hrlt, hx59, hxb, hxL⟩ | hend
          · have hix2 := HIX.out r x hxl
            have g8 : (r : Int) < (s.size : Int) := by omega
            have hx3 : x.toNat ≠ 32 ∧ x.toNat ≠ 9 ∧ x.toNat ≠ 13 := by
              rw [blk_nat] at hxb
              simp only [Bool.or_eq_false_iff, decide_eq_false_iff_not] at hxb
              omega
            have m0 : ((x.toNat : Int) != 59) = true := bne_iff_ne.2 (by omega)
            have m1 : ((x.toNat : Int) != 32) = true := bne_iff_ne.2 (by omega)
            have m2 : ((x.toNat : Int) != 9) = true := bne_iff_ne.2 (by omega)
            have m3 : ((x.toNat : Int) != 13) = true := bne_iff_ne.2 (by omega)
            have HD2 : Hid (∀ y ∈ (L.drop q).take (r + 1 - q), blk y = false) := Lib.hid fun y hy => by
              rw [show r + 1 - q = (r - q) + 1 by omega, List.take_add_one, List.getElem?_drop, show q + (r - q) = r by omega, hxL, List.mem_append] at hy
              rcases hy with hy | hy
              · exact HD.out y hy
              · obtain rfl : y = x := by simpa using hy
                exact hxb
            clear hix hxl hxb hxL HIX HEX HAT HEN HDR HOW HBR HWS HNB HD
            go_wp2
            exact ⟨⟨r + 1, by omega, by omega, by go_num, HD2.out, by trivial⟩, by simp [intOf]; omega⟩
          · have hrq : q < r := by
              rcases Nat.lt_or_ge q r with h | h
              · exact h
              · obtain rfl : r = q := by omega
                rcases hend with h | ⟨x, h1, _, _, h4⟩
                · omega
                · rw [HNB.out.2] at h1
                  rw [← Option.some.inj h1, HNB.out.1] at h4
                  cases h4
            obtain ⟨X, hX⟩ : ∃ X, (L.drop q).take (r - q) = X := ⟨_, rfl⟩
            have HXE : Hid (s.extract q r = ⟨X.toArray⟩) := Lib.hid (by rw [HEX.out q r, HDR.out q r hrl, hX])
            have HN : Hid (wds L = (ws ++ [X]) ++ wds (L.drop r)) := Lib.hid (by
              have e : L.drop q = X ++ L.drop r := by
                rw [← hX]
                conv => lhs; rw [← List.take_append_drop (r - q) (L.drop q), List.drop_drop, show q + (r - q) = r by omega]
              rw [HWS.out, e, wds_word X (L.drop r) (fun h => by
                have := congrArg List.length (hX.trans h)
                rw [List.length_take, List.length_drop] at this
                simp only [List.length_nil] at this
                omega) (fun y hy => HD.out y (by rw [hX]; exact hy)) (fun y hy => by
                rw [List.head?_drop] at hy
                rcases hend with h | ⟨x, h1, _, _, h4⟩
                · rw [h, List.getElem?_eq_none (Nat.le_refl _)] at hy; cases hy
                · rw [h1] at hy; rw [← Option.some.inj hy]; exact h4), List.append_assoc]
              rfl)
            have hstop : (¬ (r : Int) < (s.size : Int)) ∨ ((r : Int) < (s.size : Int) ∧ ∃ x : UInt8, (∀ W, (Instr.index 9 (.string s) (.int .i64 r)).run Tryz.prog W = .ok (.int .u8 x.toNat) W) ∧ (x.toNat = 59 ∨ x.toNat = 32 ∨ x.toNat = 9 ∨ x.toNat = 13)) := by
              rcases hend with h | ⟨x, h1, h2, h3, h4⟩
              · rcases HEN.out with he | ⟨he1, he2⟩
                · exact .inl (by omega)
                · refine .inr ⟨by omega, 59, HIX.out r 59 (by rw [h]; exact he2), .inl rfl⟩
              · have hl1 : r < L.length := (List.getElem?_eq_some_iff.1 h1).1
                refine .inr ⟨by omega, x, HIX.out r x h2, .inr ?_⟩
                rw [blk_nat] at h4
                simp only [Bool.or_eq_true, decide_eq_true_eq] at h4
                omega
            have HSC := Lib.hid (scell_cat ws X)
            have hb0 := HBR.out.size
            clear hend hX hix HIX HEX HAT HEN HDR HWS HNB HD
            have hstop2 : (¬ (r : Int) < (s.size : Int)) ∨ ((r : Int) < (s.size : Int) ∧ ∃ x : UInt8, (∀ W, (Instr.index 9 (.string s) (.int .i64 r)).run Tryz.prog W = .ok (.int .u8 x.toNat) W) ∧ ((((x.toNat : Int) != 59) = false) ∨ (((x.toNat : Int) != 59) = true ∧ ((x.toNat : Int) != 32) = false) ∨ (((x.toNat : Int) != 59) = true ∧ ((x.toNat : Int) != 32) = true ∧ ((x.toNat : Int) != 9) = false) ∨ (((x.toNat : Int) != 59) = true ∧ ((x.toNat : Int) != 32) = true ∧ ((x.toNat : Int) != 9) = true ∧ ((x.toNat : Int) != 13) = false))) := by
              have hb : ∀ (x k : Nat), (((x : Int) != (k : Int)) = false ↔ x = k) ∧ (((x : Int) != (k : Int)) = true ↔ x ≠ k) := fun x k => ⟨by rw [bne_eq_false_iff_eq]; omega, by rw [bne_iff_ne]; omega⟩
              rcases hstop with h | ⟨h, x, h1, h2⟩
              · exact .inl h
              · refine .inr ⟨h, x, h1, ?_⟩
                have e59 := hb x.toNat 59
                have e32 := hb x.toNat 32
                have e9 := hb x.toNat 9
                have e13 := hb x.toNat 13
                rcases h2 with h | h | h | h
                · exact .inl (e59.1.2 h)
                · exact .inr (.inl ⟨e59.2.2 (by omega), e32.1.2 h⟩)
                · exact .inr (.inr (.inl ⟨e59.2.2 (by omega), e32.2.2 (by omega), e9.1.2 h⟩))
                · exact .inr (.inr (.inr ⟨e59.2.2 (by omega), e32.2.2 (by omega), e9.2.2 (by omega), e13.1.2 h⟩))
            clear hstop
            rcases hstop2 with h | ⟨h, x, hix2, h0 | ⟨h0, h1⟩ | ⟨h0, h1, h2⟩ | ⟨h0, h1, h2, h3⟩⟩
            all_goals
              go_wp2_with (at_builtin; go_must (refine app_cells _ (by rfl) _ _ _ 9 (by rfl) Tryz.underlying35 infoS (by rfl) (by decide) rfl (HOW.out.alloc _) rfl (by rw [HXE.out]; exact one_str _ X 9) (fun i _ => by rfl) (by unfold maxLen; omega) (by omega) (by simp; omega) (ws.length + 1) rfl (scell (ws ++ [X])) HSC.out ?_; rintro A7 c7 w7 hown7 hB7))
              exact ⟨⟨r, ws ++ [X], A7, c7, by omega, by rw [List.length_append]; show ws.length + 1 ≤ r; omega, HN.out, by rw [List.length_append]; rfl, rfl, by rw [List.length_append]; exact hown7, (HBR.out.alloc hb0 _).trans hB7⟩, by simp [intOf]; omega⟩
    · obtain rfl : q = L.length := by omega
      have HF : Hid (wds L = ws) := Lib.hid (by
        have := HWS.out
        rw [List.drop_eq_nil_iff.2 (Nat.le_refl _)] at this
        simpa [wds, wdF, psh] using this)
      have hcl : Cel wr wr.heap.size 1 A (wds L).length c (scell (wds L)) := by rw [HF.out]; exact HOW.out.cel
      have hstop : (¬ (L.length : Int) < (s.size : Int)) ∨ ((L.length : Int) < (s.size : Int) ∧ (∀ W, (Instr.index 9 (.string s) (.int .i64 L.length)).run Tryz.prog W = .ok (.int .u8 59) W)) := by
        rcases HEN.out with he | ⟨he1, he2⟩
        · exact .inl (by omega)
        · exact .inr ⟨by omega, HIX.out L.length 59 he2⟩
      have HCL := Lib.hid hcl
      have g2 : (0 : Int) ≤ (L.length : Int) := by omega
      clear hcl HEN HIX HEX HAT HDR HWS
      rcases hstop with h | ⟨h, hix⟩
      all_goals
        go_wp2
        go_ret
        exact ⟨A, c, by rw [HF.out]; rfl, HCL.out, HBR.out⟩
end Go.Proofs.YtebeoadmdflfcaaGreatDoor
