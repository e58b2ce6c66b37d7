/-
  The document's lines of a text.
-/
import Derived.Test.YtieebnninhbdoaaTg
namespace Go.Proofs.Ytieebnninhbdoaa
open Go.RowKit

theorem WR.of_ownC {w : World} {base n c : Nat} {A : Option Addr} {ws : List (List UInt8)} (h : OwnC w base 9 1 A n c (strs ws)) (hn : n = ws.length) (h0 : ws ≠ []) : ∃ b, A = some ⟨b, 0, none⟩ ∧ WR w b ws := by
  obtain ⟨h1, h2⟩ := h
  rcases h2 with ⟨hv, h00⟩ | ⟨gg, cap, cur, hv, hg, hh, h3, h4, h5, h6⟩
  · have := List.length_pos_iff.2 h0
    omega
  · injection hv with e1 e2 e3
    refine ⟨gg, e1, cur, hh, fun j x hx => ?_⟩
    have hj : j < ws.length := (List.getElem?_eq_some_iff.1 hx).1
    have h7 := congrArg (fun l : List Value => l[j]?) h6
    simp only [Nat.mul_one] at h7
    rw [List.getElem?_take_of_lt (by omega), List.getElem?_map, List.getElem?_range (by omega)] at h7
    rw [← Array.getElem?_toList, h7]
    show some (strs ws j) = _
    unfold strs
    rw [List.getD_eq_getElem?_getD, hx]
    rfl
theorem app_cellsG {P : Program} (w : World) {ops : Array Oper} {rest : List Oper} {o : Oper} {a : Act} {Q : Exit → Act → World → Prop} (hgd : o.guard = none) (s x : Operand) (t E : TypeId)
    (ho : o.op = .call { callee := .builtin .append, args := #[s, x], argTypes := #[t, t] })
    (ht : P.underlying t = some (.slice E)) {zv : Value} {z by_ : Nat} (hinfo : (P.info? E).map (fun i => (i.zero, i.size, i.bytes)) = some (some zv, z, by_)) (hzs : zv.cells.size = z) (hz : 0 < z)
    {base n c m d : Nat} {A C : Option Addr} {F G : Nat → Value} (hs : a.eval s = .slice A n c) (hown : OwnC w base E z A n c F) (hx : a.eval x = .slice C m d) {B : Nat} (hr : Cel w B z C m d G) (h1c : ∀ i, i < m * z → (G i).oneCell' = true)
    (hn : n + m ≤ maxLen) (hby : (n + m) * by_ ≤ 140737488355328) (hbase : base ≤ w.heap.size) (N : Nat) (hN : n + m = N) (H : Nat → Value) (hH : ∀ i, i < N * z → catC (n * z) F G i = H i)
    (h : ∀ A' c' w', OwnC w' base E z A' N c' H → w.grownBy w' (Value.slice A n c).ownBlock → Below base w w' → wpList P ops Q rest (a.put o.dst (.slice A' N c')) w') : wpList P ops Q (o :: rest) a w := by
  subst hN
  exact wpList_plain hgd fun _ hK => wp_cells w s x t E ho ht hinfo hzs hz hs hown hx hr h1c hn hby hbase fun A' c' w' h1 h2 h3 => hK _ _ (h A' c' w' (h1.congr hH) h2 h3)
theorem two_ln (w : World) (n : Int) (v : Value) (E : TypeId) : Cel (w.alloc (.cells #[.int .i64 n, v] E)) (w.heap.size + 1) 2 (some ⟨w.heap.size, 0, none⟩) 1 1 (fun i => if i = 0 then .int .i64 n else v) :=
  Cel.mk_ (by omega) (by decide) (by decide) (fun i hi => by
    have hr := RowC.new w #[.int .i64 n, v] E _ rfl
    by_cases h : i = 0
    · subst h
      exact hr.cell 0 _ rfl
    · obtain rfl : i = 1 := by omega
      exact hr.cell 1 _ rfl)
theorem LR.grown {w4 w5 : World} {ls : List Ln} {base n c : Nat} {E : TypeId} {A : Option Addr} {F : Nat → Value} {O : Obj} (h : LR w4 ls) (hown : OwnC w4 base E 2 A n c F) (hE : 9 ≠ E) (hg : (w4.alloc O).grownBy w5 (Value.slice A n c).ownBlock) : LR w5 ls :=
  h.of fun b hlt hh => by
    obtain ⟨cur, T, hc, hT⟩ := hh
    exact (hg.block b (by simp; omega) ((hown.alloc O).not_row (h_old _ _ _ _ hc) (by rw [hT]; exact hE))).trans (Below.heap_alloc _ _ _ hlt)
theorem infoLd : (Try.prog.info? 60).map (fun i => (i.zero, i.size, i.bytes)) = some (some (.agg #[.int .i64 0, .slice none 0 0]), 2, 32) := by kernel_rfl
def LinesD (w : World) (L : List UInt8) (e : Ending) (w' : World) : Prop :=
  (((linesF L).2 = 0 ∧ ∃ A c ls, e = .returned (.tuple #[.slice A ls.length c, .int .i64 0, .int .i64 0]) ∧ ls.map Ln.tell = (linesF L).1 ∧ OwnC w' w.heap.size 60 2 A ls.length c (lcell ls) ∧ LR w' ls) ∨
    ((linesF L).2 ≠ 0 ∧ e = .returned (.tuple #[.slice none 0 0, .int .i64 ((linesF L).2 : Nat), .int .i64 13]))) ∧ Below w.heap.size w w'
set_option maxRecDepth 100000 in
theorem linesd_long (s : ByteArray) (hs : 65536 < s.size) (w : World) : Calls Try.prog 11 #[.string s] w fun e w' => e = .returned (.tuple #[.slice none 0 0, .int .i64 0, .int .i64 3]) ∧ w' = w := by
  have i1 : (65536 : Int) < (s.size : Int) := by omega
  go_enter Try.func11, Try.ntmps11
  go_wp2
  go_ret3
  exact ⟨rfl, rfl⟩
theorem seg_ten (L : List UInt8) (a i : Nat) (ha : a ≤ i) (hi : L[i]? = some 10) (hno : ∀ c ∈ (L.drop a).take (i - a), c ≠ 10) : lns (L.drop a) = (L.drop a).take (i - a) :: lns (L.drop (i + 1)) := by
  have hlt := (List.getElem?_eq_some_iff.1 hi).1
  have e : L.drop a = (L.drop a).take (i - a) ++ 10 :: L.drop (i + 1) := by
    have e1 : L.drop i = 10 :: L.drop (i + 1) := by
      rw [List.drop_eq_getElem_cons hlt]
      congr 1
      exact (List.getElem?_eq_some_iff.1 hi).2
    rw [← e1, show L.drop i = (L.drop a).drop (i - a) by rw [List.drop_drop]; congr 1; omega, List.take_append_drop]
  have h := lns_some _ (L.drop (i + 1)) hno
  rw [← e] at h
  exact h
theorem seg_end (L : List UInt8) (a : Nat) (_ha : a ≤ L.length) (hno : ∀ c ∈ (L.drop a).take (L.length - a), c ≠ 10) : lns (L.drop a) = [(L.drop a).take (L.length - a)] := by
  rw [List.take_of_length_le (by rw [List.length_drop]; exact Nat.le_refl _)] at hno ⊢
  exact lns_none _ hno
theorem seg_more (L : List UInt8) (a i : Nat) (ha : a ≤ i) {b : UInt8} (hi : L[i]? = some b) (hb : b ≠ 10) (hno : ∀ c ∈ (L.drop a).take (i - a), c ≠ 10) : ∀ c ∈ (L.drop a).take (i + 1 - a), c ≠ 10 := by
  intro c hc
  rw [show i + 1 - a = (i - a) + 1 by omega, List.take_add_one] at hc
  rcases List.mem_append.1 hc with hc | hc
  · exact hno c hc
  · rw [List.getElem?_drop, show a + (i - a) = i by omega, hi] at hc
    simp at hc
    rw [hc]; exact hb

set_option maxHeartbeats 8000000 in
set_option maxRecDepth 100000 in
theorem linesd_any (s : ByteArray) (hs : s.size ≤ 65536) (w : World) : Calls Try.prog 11 #[.string s] w (LinesD w s.data.toList) := by
  obtain ⟨L, hL⟩ : ∃ L, s.data.toList = L := ⟨_, rfl⟩
  have hsz : L.length = s.size := by rw [← hL]; exact Array.length_toList
  have hix : ∀ (p : Nat) (b : UInt8), L[p]? = some b → ∀ W, (Instr.index 9 (.string s) (.int .i64 p)).run Try.prog W = .ok (.int .u8 b.toNat) W := fun p b h W => ixStr s p b (by rw [hL]; exact h) W
  have HIX := Lib.hid hix
  have hwd : ∀ a i, a ≤ i → i ≤ L.length → ∀ Z, Calls Try.prog 23 #[.string (s.extract a i)] Z (WordsP Z ((L.drop a).take (i - a))) := fun a i ha hi Z => by
    have h := words_any (s.extract a i) (by rw [ByteArray.size_extract]; omega) Z
    rw [Lib.extract_eq, hL] at h ⊢
    exact h
  have HWD := Lib.hid hwd
  obtain ⟨i0, hi0, hz0, hz1, hz2⟩ := info_parts infoLd
  rw [hL]
  have i0 : ¬ (65536 : Int) < (s.size : Int) := by omega
  clear hix hwd
  go_enter Try.func11, Try.ntmps11
  go_wp2
  go_loopw [5, 6, 7, 8] (fun o m t v wr => ∃ (i a n : Nat) (A : Option Addr) (c : Nat) (ls : List Ln), a ≤ i ∧ i ≤ L.length + 1 ∧ v = .int .i64 i ∧ t = .int .i64 a ∧ m = .int .i64 n ∧ o = .slice A ls.length c ∧ ls.length < n ∧ n ≤ a + 1 ∧
      (i ≤ L.length → ∀ c ∈ (L.drop a).take (i - a), c ≠ 10) ∧ linesF L = scan n (if i ≤ L.length then lns (L.drop a) else []) (ls.map Ln.tell) ∧ OwnC wr w.heap.size 60 2 A ls.length c (lcell ls) ∧ LR wr ls ∧ Below w.heap.size w wr)
    (fun _ _ _ v _ => s.size + 1 - (intOf v).toNat)
  case atStart =>
    refine ⟨0, 0, 1, none, 0, [], Nat.le_refl _, Nat.zero_le _, rfl, rfl, rfl, rfl, by decide, Nat.le_refl _, fun _ c hc => by simp at hc, ?_, OwnC.nil_, fun x hx => (by cases hx), Below.refl _ _⟩
    rw [if_pos (Nat.zero_le _)]
    rfl
  case round =>
    obtain ⟨i, a, n, A, c, ls, hai, hil, rfl, rfl, rfl, rfl, hln, hna, hno, hsc, hown, hlr, hbw⟩ := hrel
    by_cases hle : i ≤ L.length
    · have i1 : (i : Int) ≤ (s.size : Int) := by omega
      have i2 : (0 : Int) ≤ (i : Int) := by omega
      have i3 : IntKind.i64.wrap ((i : Int) + 1) = (i : Int) + 1 := IntWalk.i64_in _ (by omega)
      rw [if_pos hle] at hsc
      by_cases hc : ∃ b, L[i]? = some b ∧ b ≠ 10
      · obtain ⟨b, hb, hb10⟩ := hc
        have hlt := (List.getElem?_eq_some_iff.1 hb).1
        have i4 : (i : Int) < (s.size : Int) := by omega
        have hix := HIX.out i b hb
        obtain ⟨r, hr⟩ : ∃ r, b.toNat = r := ⟨_, rfl⟩
        rw [hr] at hix
        have hr10 : r ≠ 10 := fun e => hb10 (UInt8.toNat_inj.1 (hr.trans e))
        have i5 : ((r : Int) == 10) = false := beq_eq_false_iff_ne.2 (by omega)
        have HR : Hid ((∀ c ∈ (L.drop a).take (i + 1 - a), c ≠ 10) ∧ linesF L = scan n (lns (L.drop a)) (ls.map Ln.tell)) := Lib.hid ⟨seg_more L a i hai hb hb10 (hno hle), hsc⟩
        clear hno hsc
        go_wp2
        refine ⟨⟨i + 1, a, n, A, c, ls, by omega, by omega, by go_num, rfl, rfl, rfl, hln, hna, fun _ => HR.out.1, ?_, hown, hlr, hbw⟩, by simp [intOf]; omega⟩
        rw [if_pos (by omega)]
        exact HR.out.2
      · have hbr : ((L[i]? = some 10 ∧ (i : Int) < (s.size : Int)) ∨ ¬ (i : Int) < (s.size : Int)) ∧ lns (L.drop a) = (L.drop a).take (i - a) :: (if i + 1 ≤ L.length then lns (L.drop (i + 1)) else []) := by
          by_cases hlt : i < L.length
          · have hb : L[i]? = some 10 := by
              by_cases h10 : L[i]'hlt = 10
              · rw [List.getElem?_eq_getElem hlt, h10]
              · exact absurd ⟨_, List.getElem?_eq_getElem hlt, h10⟩ hc
            exact ⟨.inl ⟨hb, by omega⟩, by rw [if_pos (by omega)]; exact seg_ten L a i hai hb (hno hle)⟩
          · obtain rfl : i = L.length := by omega
            exact ⟨.inr (by omega), by rw [if_neg (by omega)]; exact seg_end L a hai (hno hle)⟩
        obtain ⟨hbr, hseg⟩ := hbr
        obtain ⟨sg, hsg⟩ : ∃ sg, (L.drop a).take (i - a) = sg := ⟨_, rfl⟩
        have hwd := fun Z => HWD.out a i hai hle Z
        rw [hsg] at hseg hwd
        rw [hseg] at hsc
        have hsc' : linesF L = if (nb sg).all okS = true then scan (n + 1) (if i + 1 ≤ L.length then lns (L.drop (i + 1)) else []) (if wds (nb sg) = [] then ls.map Ln.tell else ls.map Ln.tell ++ [(n, wds (nb sg))]) else ([], n) := hsc
        have HIB : ∀ W, L[i]? = some 10 → (Instr.index 9 (.string s) (.int .i64 i)).run Try.prog W = .ok (.int .u8 ((10 : Nat) : Int)) W := fun W h => HIX.out i 10 h W
        have i6 : (0 : Int) ≤ (a : Int) := by omega
        have i7 : (a : Int) ≤ (i : Int) := by omega
        have i8 : IntKind.i64.wrap ((n : Int) + 1) = (n : Int) + 1 := IntWalk.i64_in _ (by omega)
        have HLR := Lib.hid hlr
        have HBW := Lib.hid hbw
        have hsw := hbw.size
        cases hok : (nb sg).all okS
        · have hsp : ∀ Z, Calls Try.prog 23 #[.string (s.extract a i)] Z fun e w' => e = .returned (.tuple #[.slice none 0 0, .bool false]) ∧ Below Z.heap.size Z w' := fun Z => (hwd Z).mono fun e w' hh => by
            obtain ⟨hc, hb⟩ := hh
            rcases hc with ⟨hc, _⟩ | ⟨_, hc⟩
            · rw [hok] at hc; cases hc
            · exact ⟨hc, hb⟩
          have HS : Hid (linesF L = ([], n)) := Lib.hid (by rw [hsc', hok]; rfl)
          clear hwd hsc hsc' hok hno hseg hc hlr hbw
          rcases hbr with ⟨hb, i4⟩ | i4
          · have hix := fun W => HIB W hb
            clear HIB
            go_wp2_with (go_at_call 23; refine (hsp wr).mono ?_; rintro e w4 ⟨rfl, hB4⟩)
            go_ret3
            exact ⟨.inr ⟨by rw [HS.out]; show n ≠ 0; omega, by rw [HS.out]; rfl⟩, HBW.out.trans (hB4.mono hsw)⟩
          · clear HIB
            go_wp2_with (go_at_call 23; refine (hsp wr).mono ?_; rintro e w4 ⟨rfl, hB4⟩)
            go_ret3
            exact ⟨.inr ⟨by rw [HS.out]; show n ≠ 0; omega, by rw [HS.out]; rfl⟩, HBW.out.trans (hB4.mono hsw)⟩
        · rw [hok, if_pos rfl] at hsc'
          cases hws : wds (nb sg) with
          | nil =>
            have hsp : ∀ Z, Calls Try.prog 23 #[.string (s.extract a i)] Z fun e w' => ∃ A c, e = .returned (.tuple #[.slice A 0 c, .bool true]) ∧ Below Z.heap.size Z w' := fun Z => (hwd Z).mono fun e w' hh => by
              obtain ⟨hc, hb⟩ := hh
              rcases hc with ⟨_, A, c, hc, _⟩ | ⟨hc, _⟩
              · rw [hws] at hc; exact ⟨A, c, hc, hb⟩
              · rw [hok] at hc; cases hc
            have HS : Hid (linesF L = scan (n + 1) (if i + 1 ≤ L.length then lns (L.drop (i + 1)) else []) (ls.map Ln.tell)) := Lib.hid (by rw [hsc', if_pos hws])
            clear hwd hsc hsc' hok hno hseg hc hlr hbw hws
            rcases hbr with ⟨hb, i4⟩ | i4
            · have hix := fun W => HIB W hb
              clear HIB
              go_wp2_with (go_at_call 23; refine (hsp wr).mono ?_; rintro e w4 ⟨A4, c4, rfl, hB4⟩)
              refine ⟨⟨i + 1, i + 1, n + 1, A, c, ls, Nat.le_refl _, by omega, by go_num, by go_num, by go_num, rfl, by omega, by omega, fun _ c hc => by simp at hc, HS.out, hown.below hB4 (Nat.le_refl _), HLR.out.below hB4, HBW.out.trans (hB4.mono hsw)⟩, by simp [intOf]; omega⟩
            · clear HIB
              go_wp2_with (go_at_call 23; refine (hsp wr).mono ?_; rintro e w4 ⟨A4, c4, rfl, hB4⟩)
              refine ⟨⟨i + 1, i + 1, n + 1, A, c, ls, Nat.le_refl _, by omega, by go_num, by go_num, by go_num, rfl, by omega, by omega, fun _ c hc => by simp at hc, HS.out, hown.below hB4 (Nat.le_refl _), HLR.out.below hB4, HBW.out.trans (hB4.mono hsw)⟩, by simp [intOf]; omega⟩
          | cons w0 wt =>
            obtain ⟨ws, hwe⟩ : ∃ ws, w0 :: wt = ws := ⟨_, rfl⟩
            have hne : ws ≠ [] := by rw [← hwe]; exact List.cons_ne_nil _ _
            rw [hwe] at hws
            have hsp : ∀ Z, Calls Try.prog 23 #[.string (s.extract a i)] Z fun e w' => ∃ B c, e = .returned (.tuple #[.slice (some ⟨B, 0, none⟩) ws.length c, .bool true]) ∧ (ws.length ≤ c ∧ WR w' B ws) ∧ Below Z.heap.size Z w' := fun Z => (hwd Z).mono fun e w' hh => by
              obtain ⟨hc, hb⟩ := hh
              rcases hc with ⟨_, A, c, hc, hown⟩ | ⟨hc, _⟩
              · rw [hws] at hc hown
                have hcl := hown.cel.le.1
                obtain ⟨B, rfl, hwr⟩ := WR.of_ownC hown rfl hne
                exact ⟨B, c, hc, ⟨hcl, hwr⟩, hb⟩
              · rw [hok] at hc; cases hc
            have HS : Hid (linesF L = scan (n + 1) (if i + 1 ≤ L.length then lns (L.drop (i + 1)) else []) (ls.map Ln.tell ++ [(n, ws)])) := Lib.hid (by rw [hsc', hws, if_neg hne])
            have HNE := Lib.hid hne
            have hlen0 : (0 : Int) < (ws.length : Int) := by
              have := List.length_pos_iff.2 hne
              omega
            clear hwd hsc hsc' hok hno hseg hc hlr hbw hws hwe hne
            rcases hbr with ⟨hb, i4⟩ | i4
            · have hix := fun W => HIB W hb
              clear HIB
              go_wp2_with (first
                | (go_at_call 23; refine (hsp wr).mono ?_; rintro e w4 ⟨B4, c4, rfl, ⟨hc4, hWR⟩, hB4⟩; have own4 := hown.below hB4 (Nat.le_refl _))
                | (at_builtin; go_must (refine app_cellsG _ rfl _ _ _ 60 rfl Try.underlying26 infoLd rfl (by decide) rfl (own4.alloc _) rfl (two_ln w4 (n : Int) (.slice (some ⟨B4, 0, none⟩) ws.length c4) 60) (fun i _ => by split <;> rfl) (by unfold maxLen; omega) (by omega) (by have := hB4.size; simp; omega) (ls.length + 1) rfl (lcell (ls ++ [⟨n, B4, c4, ws⟩])) (fun i hi => lcell_snoc ls ⟨n, B4, c4, ws⟩ i hi) ?_; rintro A2 c2 w5 ho2 hg5 hb5)))
              have hlr4 : LR w4 (ls ++ [⟨n, B4, c4, ws⟩]) := fun y hy => by
                rcases List.mem_append.1 hy with hy | hy
                · exact HLR.out.below hB4 y hy
                · rw [List.mem_singleton] at hy
                  subst hy
                  exact ⟨HNE.out, hc4, hWR⟩
              refine ⟨⟨i + 1, i + 1, n + 1, A2, c2, ls ++ [⟨n, B4, c4, ws⟩], Nat.le_refl _, by omega, by go_num, by go_num, by go_num, by simp, by simp; omega, by omega, fun _ c hc => by simp at hc, ?_, ?_, hlr4.grown own4 (by decide) hg5, (HBW.out.trans (hB4.mono hsw)).trans (((Below.refl _ w4).alloc (by have := hB4.size; omega) _).trans hb5)⟩, by simp [intOf]; omega⟩
              · rw [HS.out, List.map_append]
                rfl
              · rw [List.length_append]
                exact ho2
            · clear HIB
              go_wp2_with (first
                | (go_at_call 23; refine (hsp wr).mono ?_; rintro e w4 ⟨B4, c4, rfl, ⟨hc4, hWR⟩, hB4⟩; have own4 := hown.below hB4 (Nat.le_refl _))
                | (at_builtin; go_must (refine app_cellsG _ rfl _ _ _ 60 rfl Try.underlying26 infoLd rfl (by decide) rfl (own4.alloc _) rfl (two_ln w4 (n : Int) (.slice (some ⟨B4, 0, none⟩) ws.length c4) 60) (fun i _ => by split <;> rfl) (by unfold maxLen; omega) (by omega) (by have := hB4.size; simp; omega) (ls.length + 1) rfl (lcell (ls ++ [⟨n, B4, c4, ws⟩])) (fun i hi => lcell_snoc ls ⟨n, B4, c4, ws⟩ i hi) ?_; rintro A2 c2 w5 ho2 hg5 hb5)))
              have hlr4 : LR w4 (ls ++ [⟨n, B4, c4, ws⟩]) := fun y hy => by
                rcases List.mem_append.1 hy with hy | hy
                · exact HLR.out.below hB4 y hy
                · rw [List.mem_singleton] at hy
                  subst hy
                  exact ⟨HNE.out, hc4, hWR⟩
              refine ⟨⟨i + 1, i + 1, n + 1, A2, c2, ls ++ [⟨n, B4, c4, ws⟩], Nat.le_refl _, by omega, by go_num, by go_num, by go_num, by simp, by simp; omega, by omega, fun _ c hc => by simp at hc, ?_, ?_, hlr4.grown own4 (by decide) hg5, (HBW.out.trans (hB4.mono hsw)).trans (((Below.refl _ w4).alloc (by have := hB4.size; omega) _).trans hb5)⟩, by simp [intOf]; omega⟩
              · rw [HS.out, List.map_append]
                rfl
              · rw [List.length_append]
                exact ho2
    · obtain rfl : i = L.length + 1 := by omega
      have i1 : ¬ ((L.length + 1 : Nat) : Int) ≤ (s.size : Int) := by omega
      rw [if_neg hle] at hsc
      have hend : linesF L = (ls.map Ln.tell, 0) := hsc
      have HE := Lib.hid hend
      clear hsc hend hno
      go_wp2
      go_ret3
      exact ⟨.inl ⟨by rw [HE.out], A, c, ls, rfl, by rw [HE.out], hown, hlr⟩, hbw⟩
end Go.Proofs.Ytieebnninhbdoaa
