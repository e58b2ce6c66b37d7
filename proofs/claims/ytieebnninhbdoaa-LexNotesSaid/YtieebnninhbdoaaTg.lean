/-
  The document's words of a line.
-/
import Derived.Test.YtieebnninhbdoaaTf
namespace Go.Proofs.Ytieebnninhbdoaa
open Go.RowKit

theorem infoS : (Try.prog.info? 9).map (fun i => (i.zero, i.size, i.bytes)) = some (some (.string ⟨#[]⟩), 1, 16) := by kernel_rfl
theorem one_str (w : World) (s : ByteArray) (E : TypeId) : Cel (w.alloc (.cells #[.string s] E)) (w.heap.size + 1) 1 (some ⟨w.heap.size, 0, none⟩) 1 1 (fun _ => .string s) :=
  Cel.mk_ (by omega) (by decide) (by decide) (fun i hi => by
    obtain rfl : i = 0 := by omega
    exact (RowC.new w #[.string s] E _ rfl).cell 0 _ rfl)
theorem ixStr (S : ByteArray) (p : Nat) (b : UInt8) (h : S.data.toList[p]? = some b) (W : World) : (Instr.index 9 (.string S) (.int .i64 p)).run Try.prog W = .ok (.int .u8 b.toNat) W := by
  have hp : p < S.size := by
    have := (List.getElem?_eq_some_iff.1 h).1
    rw [Array.length_toList] at this
    exact this
  have hb : S[p]'hp = b := by
    obtain ⟨h1, h2⟩ := List.getElem?_eq_some_iff.1 h
    simpa [ByteArray.getElem_eq_getElem_data] using h2
  simp [Instr.index, run_underlying Try.underlying9, asIntOf, hp, hb, go_sem]
/-- Words as cells. -/
def strs (ws : List (List UInt8)) (i : Nat) : Value := .string ⟨(ws.getD i []).toArray⟩
theorem strs_snoc (ws : List (List UInt8)) (x : List UInt8) (i : Nat) (hi : i < (ws.length + 1) * 1) : catC (ws.length * 1) (strs ws) (fun _ => .string ⟨x.toArray⟩) i = strs (ws ++ [x]) i := by
  unfold catC strs
  rw [List.getD_eq_getElem?_getD, List.getD_eq_getElem?_getD]
  by_cases h : i < ws.length * 1
  · rw [if_pos h, List.getElem?_append_left (by omega)]
  · rw [if_neg h]
    obtain rfl : i = ws.length := by omega
    rw [List.getElem?_append_right (Nat.le_refl _), Nat.sub_self]
    rfl
theorem nb_cons (c : UInt8) (t : List UInt8) (h : c ≠ 35) : nb (c :: t) = c :: nb t := by
  unfold nb
  rw [List.takeWhile_cons, if_pos (by simpa using h)]
theorem nb_note (t : List UInt8) : nb (35 :: t) = [] := rfl
theorem wdF_length : ∀ (l w : List UInt8) (out : List (List UInt8)), (wdF l w out).length ≤ out.length + w.length + l.length
  | [], w, out => by
    show (psh out w).length ≤ _
    cases w with
    | nil => exact Nat.le_add_right _ _
    | cons c t => show (out ++ [c :: t]).length ≤ _; simp
  | c :: t, w, out => by
    show (if blk c = true then wdF t [] (psh out w) else wdF t (w ++ [c]) out).length ≤ _
    split
    · have h1 := wdF_length t [] (psh out w)
      have h2 : (psh out w).length ≤ out.length + w.length := by
        cases w with
        | nil => exact Nat.le_add_right _ _
        | cons c t => show (out ++ [c :: t]).length ≤ _; simp
      simp only [List.length_nil, List.length_cons] at h1 ⊢
      omega
    · have h1 := wdF_length t (w ++ [c]) out
      simp only [List.length_append, List.length_cons, List.length_nil] at h1 ⊢
      omega
/-- What the document's Words tells. -/
def WordsP (w : World) (l : List UInt8) (e : Ending) (w' : World) : Prop :=
  (((nb l).all okS = true ∧ ∃ A c, e = .returned (.tuple #[.slice A (wds (nb l)).length c, .bool true]) ∧ OwnC w' w.heap.size 9 1 A (wds (nb l)).length c (strs (wds (nb l)))) ∨
    ((nb l).all okS = false ∧ e = .returned (.tuple #[.slice none 0 0, .bool false]))) ∧ Below w.heap.size w w'
theorem byte_ext {s t : ByteArray} (h : s.data.toList = t.data.toList) : s = t := by
  obtain ⟨⟨a⟩⟩ := s
  obtain ⟨⟨b⟩⟩ := t
  simp at h
  rw [h]
set_option maxHeartbeats 8000000 in
set_option maxRecDepth 100000 in
theorem words_any (s : ByteArray) (hs : s.size ≤ 4294967296) (w : World) : Calls Try.prog 23 #[.string s] w (WordsP w s.data.toList) := by
  obtain ⟨L, hL⟩ : ∃ L, s.data.toList = L := ⟨_, rfl⟩
  have hsz : L.length = s.size := by rw [← hL]; exact Array.length_toList
  have hix : ∀ (p : Nat) (b : UInt8), L[p]? = some b → ∀ W, (Instr.index 9 (.string s) (.int .i64 p)).run Try.prog W = .ok (.int .u8 b.toNat) W := fun p b h W => ixStr s p b (by rw [hL]; exact h) W
  have hext : ∀ (p : Nat) (b : UInt8), L[p]? = some b → s.extract p (p + 1) = ⟨#[b]⟩ := fun p b h => by
    rw [Lib.extract_eq, hL, Nat.add_sub_cancel_left, List.drop_eq_getElem_cons (List.getElem?_eq_some_iff.1 h).1]
    simp [(List.getElem?_eq_some_iff.1 h).2]
  have HIX := Lib.hid (And.intro hix hext)
  rw [hL]
  clear hix hext
  go_enter Try.func23, Try.ntmps23
  go_wp2
  go_loopw [4, 5, 6] (fun o v i wr => ∃ (p : Nat) (A : Option Addr) (c : Nat) (out : List (List UInt8)) (wd : List UInt8), p ≤ L.length ∧ i = .int .i64 p ∧ o = .slice A out.length c ∧ v = .string ⟨wd.toArray⟩ ∧
      out.length + wd.length ≤ p ∧ OwnC wr w.heap.size 9 1 A out.length c (strs out) ∧ Below w.heap.size w wr ∧ wds (nb L) = wdF (nb (L.drop p)) wd out ∧ ((nb L).all okS = (nb (L.drop p)).all okS)) (fun _ _ i _ => s.size - (intOf i).toNat)
  case atStart =>
    exact ⟨0, none, 0, [], [], Nat.zero_le _, rfl, rfl, rfl, Nat.le_refl _, OwnC.nil_, Below.refl _ _, rfl, rfl⟩
  case round =>
    obtain ⟨p, A, c, out, wd, hp, rfl, rfl, rfl, hlen, hown, hbw, hwd, hok⟩ := hrel
    by_cases hlt : p < L.length
    · obtain ⟨b, hb⟩ : ∃ b, L[p]? = some b := ⟨_, List.getElem?_eq_getElem hlt⟩
      have hix := HIX.out.1 p b hb
      have hext := HIX.out.2 p b hb
      have hdr : L.drop p = b :: L.drop (p + 1) := by
        rw [List.drop_eq_getElem_cons hlt]
        congr 1
        exact (List.getElem?_eq_some_iff.1 hb).2
      rw [hdr] at hwd hok
      have i1 : (p : Int) < (s.size : Int) := by omega
      have i2 : (0 : Int) ≤ (p : Int) := by omega
      have i3 : IntKind.i64.wrap ((p : Int) + 1) = (p : Int) + 1 := IntWalk.i64_in _ (by omega)
      have i4 : (p : Int) + 1 ≤ (s.size : Int) := by omega
      by_cases h35 : b = 35
      · subst h35
        rw [nb_note] at hwd hok
        have hb35 : (35 : UInt8).toNat = 35 := rfl
        rw [hb35] at hix
        cases wd with
        | nil =>
          have hwd' : wds (nb L) = out := hwd
          have HEND := Lib.hid (And.intro hwd' hok)
          clear hwd hwd' hok
          go_wp2
          go_ret2
          refine ⟨.inl ⟨HEND.out.2, A, c, ?_, ?_⟩, hbw⟩
          · rw [HEND.out.1]; rfl
          · rw [HEND.out.1]; exact hown
        | cons x y =>
          have hwd' : wds (nb L) = out ++ [x :: y] := hwd
          have HEND := Lib.hid (And.intro hwd' hok)
          simp only [List.length_cons] at hlen
          obtain ⟨xy, hxy⟩ : ∃ xy, x :: y = xy := ⟨_, rfl⟩
          have n1 : (!xy.isEmpty) = true := by rw [← hxy]; rfl
          rw [hxy] at HEND ⊢
          clear hwd hwd' hok hxy
          go_wp2_with (at_builtin; go_must (refine app_cells _ rfl _ _ _ 9 rfl Try.underlying33 infoS rfl (by decide) rfl (hown.alloc _) rfl (one_str wr _ 9) (fun i _ => rfl) (by unfold maxLen; omega) (by omega) (by have := hbw.size; simp; omega) (out.length + 1) rfl (strs (out ++ [xy])) (strs_snoc out xy) ?_; rintro A2 c2 w5 ho2 hb5))
          go_ret2
          have hl2 : (out ++ [xy]).length = out.length + 1 := by simp
          refine ⟨.inl ⟨HEND.out.2, A2, c2, ?_, ?_⟩, (hbw.alloc hbw.size _).trans hb5⟩
          · rw [HEND.out.1, hl2]; rfl
          · rw [HEND.out.1, hl2]; exact ho2
      · rw [nb_cons _ _ h35] at hwd hok
        obtain ⟨r, hr⟩ : ∃ r, b.toNat = r := ⟨_, rfl⟩
        rw [hr] at hix
        have hr35 : r ≠ 35 := fun e => h35 (UInt8.toNat_inj.1 (hr.trans e))
        have j35 : ((r : Int) == 35) = false := beq_eq_false_iff_ne.2 (by omega)
        have hok' : (nb L).all okS = (okS b && (nb (L.drop (p + 1))).all okS) := hok
        cases hbl : blk b
        · rw [blk_iff, hr] at hbl
          simp only [Bool.or_eq_false_iff, decide_eq_false_iff_not] at hbl
          have j0 : ((r : Int) == 32) = false := beq_eq_false_iff_ne.2 (by omega)
          have j1 : ((r : Int) == 9) = false := beq_eq_false_iff_ne.2 (by omega)
          have j2 : ((r : Int) == 13) = false := beq_eq_false_iff_ne.2 (by omega)
          cases hkb : okS b
          · have hrr : r < 33 ∨ 126 < r := by
              have := (not_okS hkb).2.1
              omega
            have HNO : Hid ((nb L).all okS = false) := Lib.hid (by rw [hok', hkb]; rfl)
            clear hok hok' hwd hdr
            rcases hrr with hrr | hrr
            · have k0 : (r : Int) < 33 := by omega
              go_wp2
              go_ret2
              exact ⟨.inr ⟨HNO.out, rfl⟩, hbw⟩
            · have k0 : ¬ (r : Int) < 33 := by omega
              have k1 : (126 : Int) < (r : Int) := by omega
              go_wp2
              go_ret2
              exact ⟨.inr ⟨HNO.out, rfl⟩, hbw⟩
          · have hrr : 33 ≤ r ∧ r ≤ 126 := by
              have hbb : isBl b.toNat = false := by
                rw [hr]; unfold isBl
                simp [hbl.1.1, hbl.1.2, hbl.2]
              have := okS_val hkb hbb
              omega
            have k0 : ¬ (r : Int) < 33 := by omega
            have k1 : ¬ (126 : Int) < (r : Int) := by omega
            have HNO : Hid ((nb L).all okS = (nb (L.drop (p + 1))).all okS) := Lib.hid (by rw [hok', hkb]; rfl)
            have HWD : Hid (wds (nb L) = wdF (nb (L.drop (p + 1))) (wd ++ [b]) out) := Lib.hid (by
              rw [hwd]
              show (if blk b = true then _ else _) = _
              rw [if_neg]
              rw [blk_iff, hr]
              simp [hbl.1.1, hbl.1.2, hbl.2])
            clear hok hok' hwd hdr
            go_wp2
            refine ⟨⟨p + 1, A, c, out, wd ++ [b], hlt, by go_num, rfl, ?_, by simp; omega, hown, hbw, HWD.out, HNO.out⟩, by simp [intOf]; omega⟩
            have hcat : (⟨wd.toArray⟩ : ByteArray) ++ ⟨#[b]⟩ = ⟨(wd ++ [b]).toArray⟩ := by
              apply byte_ext
              simp
            exact congrArg Value.string hcat
        · have hr3 : r = 32 ∨ r = 9 ∨ r = 13 := by
            rw [blk_iff, hr] at hbl
            simpa [or_assoc] using hbl
          have hkb : okS b = true := by rw [okS_iff, hbl]; rfl
          have HNO : Hid ((nb L).all okS = (nb (L.drop (p + 1))).all okS) := Lib.hid (by rw [hok', hkb]; rfl)
          have HWD : Hid (wds (nb L) = wdF (nb (L.drop (p + 1))) [] (psh out wd)) := Lib.hid (by
            rw [hwd]
            show (if blk b = true then _ else _) = _
            rw [if_pos hbl])
          clear hok hok' hwd hdr hbl hkb hr35 j35 hr
          cases wd with
          | nil =>
            have HWD' : Hid (wds (nb L) = wdF (nb (L.drop (p + 1))) [] out) := Lib.hid HWD.out
            rcases hr3 with rfl | rfl | rfl
            all_goals
              go_wp2
              exact ⟨⟨p + 1, A, c, out, [], hlt, by go_num, rfl, rfl, by simp at hlen ⊢; omega, hown, hbw, HWD'.out, HNO.out⟩, by simp [intOf]; omega⟩
          | cons x y =>
            obtain ⟨xy, hxy⟩ : ∃ xy, x :: y = xy := ⟨_, rfl⟩
            have n1 : (!xy.isEmpty) = true := by rw [← hxy]; rfl
            have HWD' : Hid (wds (nb L) = wdF (nb (L.drop (p + 1))) [] (out ++ [xy])) := Lib.hid (by rw [HWD.out, psh_ne _ (List.cons_ne_nil _ _), hxy])
            simp only [List.length_cons] at hlen
            rw [hxy]
            clear hxy
            rcases hr3 with rfl | rfl | rfl
            all_goals
              go_wp2_with (at_builtin; go_must (refine app_cells _ rfl _ _ _ 9 rfl Try.underlying33 infoS rfl (by decide) rfl (hown.alloc _) rfl (one_str wr _ 9) (fun i _ => rfl) (by unfold maxLen; omega) (by omega) (by have := hbw.size; simp; omega) (out.length + 1) rfl (strs (out ++ [xy])) (strs_snoc out xy) ?_; rintro A2 c2 w5 ho2 hb5))
              refine ⟨⟨p + 1, A2, c2, out ++ [xy], [], hlt, by go_num, by simp, rfl, by simp; omega, ?_, (hbw.alloc hbw.size _).trans hb5, HWD'.out, HNO.out⟩, by simp [intOf]; omega⟩
              rw [List.length_append]
              exact ho2
    · have hpl : p = L.length := by omega
      have i1 : ¬ (p : Int) < (s.size : Int) := by omega
      rw [List.drop_eq_nil_of_le (by omega)] at hwd hok
      cases wd with
      | nil =>
        have hwd' : wds (nb L) = out := hwd
        have HEND := Lib.hid (And.intro hwd' hok)
        clear hwd hwd' hok
        go_wp2
        go_ret2
        refine ⟨.inl ⟨HEND.out.2, A, c, ?_, ?_⟩, hbw⟩
        · rw [HEND.out.1]; rfl
        · rw [HEND.out.1]; exact hown
      | cons x y =>
        have hwd' : wds (nb L) = out ++ [x :: y] := hwd
        have HEND := Lib.hid (And.intro hwd' hok)
        simp only [List.length_cons] at hlen
        obtain ⟨xy, hxy⟩ : ∃ xy, x :: y = xy := ⟨_, rfl⟩
        have n1 : (!xy.isEmpty) = true := by rw [← hxy]; rfl
        rw [hxy] at HEND ⊢
        clear hwd hwd' hok hxy
        go_wp2_with (at_builtin; go_must (refine app_cells _ rfl _ _ _ 9 rfl Try.underlying33 infoS rfl (by decide) rfl (hown.alloc _) rfl (one_str wr _ 9) (fun i _ => rfl) (by unfold maxLen; omega) (by omega) (by have := hbw.size; simp; omega) (out.length + 1) rfl (strs (out ++ [xy])) (strs_snoc out xy) ?_; rintro A2 c2 w5 ho2 hb5))
        go_ret2
        have hl2 : (out ++ [xy]).length = out.length + 1 := by simp
        refine ⟨.inl ⟨HEND.out.2, A2, c2, ?_, ?_⟩, (hbw.alloc hbw.size _).trans hb5⟩
        · rw [HEND.out.1, hl2]; rfl
        · rw [HEND.out.1, hl2]; exact ho2
end Go.Proofs.Ytieebnninhbdoaa
