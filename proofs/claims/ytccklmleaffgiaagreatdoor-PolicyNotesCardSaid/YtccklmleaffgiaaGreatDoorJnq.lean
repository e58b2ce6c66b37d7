/-
  Layer 14: the lines of a policy: policy.linesOf; policy.Print.
-/
import Derived.Test.YtccklmleaffgiaaGreatDoorJmq
namespace Go.Proofs.YtccklmleaffgiaaGreatDoor
open Go.RowKit Go.Shelf
set_option linter.unusedVariables false

theorem WR.two {w : World} {b : Nat} {s t : List UInt8} (h : RowC w b #[.string ⟨s.toArray⟩, .string ⟨t.toArray⟩] 9) : WR w b [s, t] := by
  refine ⟨_, h, fun j x hx => ?_⟩
  match j, hx with
  | 0, hx => injection hx with hx; subst hx; rfl
  | 1, hx => injection hx with hx; subst hx; rfl
theorem own_line (w : World) (base : Nat) (hb : base ≤ w.heap.size) (y : Ln) : OwnC (w.alloc (.cells #[.int .i64 (y.num : Nat), .slice (some ⟨y.b, 0, none⟩) y.ws.length y.cap] 87)) base 87 2 (some ⟨w.heap.size, 0, none⟩) 1 1 (lcell [y]) :=
  ⟨by simp, .inr ⟨w.heap.size, 1, #[.int .i64 (y.num : Nat), .slice (some ⟨y.b, 0, none⟩) y.ws.length y.cap], rfl, hb, heap_alloc_new w _, Nat.le_refl _, by decide, rfl, rfl⟩⟩
theorem LR.alloc {w : World} {ls : List Ln} (h : LR w ls) (o : Obj) : LR (w.alloc o) ls := h.below ((Below.refl _ w).alloc (Nat.le_refl _) o)
/-- A line appended. -/
theorem app_line {w : World} {ops : Array Oper} {rest : List Oper} {o : Oper} {a : Act} {Q : Exit → Act → World → Prop} (hgd : o.guard = none) (s x : Operand)
    (ho : o.op = .call { callee := .builtin .append, args := #[s, x], argTypes := #[56, 56] })
    {base n c d g1 : Nat} {A : Option Addr} {ls : List Ln} (y : Ln) (hs : a.eval s = .slice A n c) (hn : ls.length = n) (hown : OwnC w base 87 2 A n c (lcell ls)) (hlr : LR w ls) (hx : a.eval x = .slice (some ⟨g1, 0, none⟩) 1 d) (hd : 1 ≤ d ∧ d ≤ maxLen)
    (hg1 : RowC w g1 #[.int .i64 (y.num : Nat), .slice (some ⟨y.b, 0, none⟩) y.ws.length y.cap] 87) (hy : LR w [y]) (hn2 : n ≤ 100000) (hbase : base ≤ w.heap.size)
    (h : ∀ A' c' w', OwnC w' base 87 2 A' (n + 1) c' (lcell (ls ++ [y])) → LR w' (ls ++ [y]) → Below base w w' → wpList Tryz.prog ops Q rest (a.put o.dst (.slice A' (n + 1) c')) w') : wpList Tryz.prog ops Q (o :: rest) a w := by
  subst hn
  have hcel : Cel w (g1 + 1) 2 (some ⟨g1, 0, none⟩) 1 d (fun i => if i = 0 then .int .i64 (y.num : Nat) else .slice (some ⟨y.b, 0, none⟩) y.ws.length y.cap) :=
    Cel.mk_ (by omega) hd.1 hd.2 fun i hi => by
      match i, hi with
      | 0, _ => exact hg1.cell 0 _ rfl
      | 1, _ => exact hg1.cell 1 _ rfl
  refine wpList_plain hgd fun _ hK => wp_cells w s x 56 87 ho Tryz.underlying56 infoLn rfl (by decide) hs hown hx hcel (fun i _ => by show (if i = 0 then Value.int .i64 (y.num : Nat) else .slice (some ⟨y.b, 0, none⟩) y.ws.length y.cap).oneCell' = true; split <;> rfl) (by unfold maxLen; omega) (by omega) hbase fun A' c' w' h1 hg h3 => hK _ _ (h A' c' w' (h1.congr fun i hi => lcell_snoc ls y i hi) ?_ h3)
  have hall : LR w (ls ++ [y]) := fun z hz => by
    rcases List.mem_append.1 hz with hz | hz
    · exact hlr z hz
    · exact hy z hz
  refine hall.of fun b' hlt ⟨cur, T, hc, hT⟩ => hg.block b' hlt (OwnC.not_row hown hc (by rw [hT]; decide))
/-- The lines' pieces. -/
def chunkL (k u : Int) (x : Bool) (L : List RV) : List (List (List UInt8)) := [dfW.data.toList, joinW (actL k u)] :: ((if x then [[x3W.data.toList, (onW true).data.toList]] else []) ++ L.map pieceR)
theorem join_chunks (k u : Int) (x : Bool) (L : List RV) : joinF (chunkL k u x L) = joinF (polL k u x L) := by
  have h0 : ∀ a b : List (List (List UInt8)), a.map joinW = b.map joinW → joinF a = joinF b := fun a b h => by
    unfold joinF
    have e : ∀ l : List (List (List UInt8)), (l.map fun ws => joinW ws ++ [10]) = (l.map joinW).map (· ++ [10]) := fun l => by rw [List.map_map]; rfl
    rw [e, e, h]
  apply h0
  unfold chunkL polL
  simp only [List.map_cons, List.map_append, List.map_map]
  congr 1
  · rw [joinW_tail, jt_piece (actL_ne k u), List.append_nil, joinW_tail]
  · congr 1
    exact List.map_congr_left fun r _ => join_pieces r
theorem chunk_split (k u : Int) (x : Bool) (L : List RV) : chunkL k u x L = chunkL k u x [] ++ L.map pieceR := by
  unfold chunkL
  simp
set_option maxRecDepth 100000 in
set_option maxHeartbeats 8000000 in
theorem linesOf_any (k u : Int) (x : Bool) (A : Option Addr) (l : List RL) (c : Nat) (w : World) (hl : RlL w A l) (hn : l.length ≤ 500) (hk : actB k u = true) (hm : ∀ r ∈ l, mayV r.val = true ∧ SmallV r.val ∧ r.nm.size ≤ 1000) (ht : TabP w) :
    Calls Tryz.prog 22 #[.agg (polA k u x A l.length c)] w fun e w' => ∃ A' c' ls, e = .returned (.slice A' (ls : List Ln).length c') ∧ OwnC w' w.heap.size 87 2 A' ls.length c' (lcell ls) ∧ LR w' ls ∧ ls.map (·.ws) = chunkL k u x (l.map RL.val) ∧ Below w.heap.size w w' := by
  obtain ⟨n, hnl⟩ : ∃ n, l.length = n := ⟨_, rfl⟩
  have HNL := Lib.hid hnl
  have HRL := Lib.hid hl
  have HM := Lib.hid hm
  rw [hnl] at hn ⊢
  obtain ⟨H, hH⟩ : ∃ H, w.heap.size = H := ⟨_, rfl⟩
  obtain ⟨W0, hW0⟩ : ∃ W, w.alloc (.cells (polA k u x A n c) 26) = W := ⟨_, rfl⟩
  have hB0 : Below H w W0 := by rw [← hW0, ← hH]; exact (Below.refl _ _).alloc (Nat.le_refl _) _
  have hP0 : RowC W0 H (polA k u x A n c) 26 := by rw [← hW0, ← hH]; exact RowC.new _ _ _ _ rfl
  have hs0 : W0.heap.size = H + 1 := by rw [← hW0, ← hH]; simp
  have p0 := hP0.cell 0 (.int .i64 k) rfl
  have p1 := hP0.cell 1 (.int .i64 u) rfl
  have KA := Lib.hid (actText_ok hk W0 (tab_on ht hB0 (by omega)))
  have HTW := Lib.hid ht
  have HB0 := Lib.hid hB0
  have HP0 := Lib.hid hP0
  have HW := Lib.hid hW0
  have HH := Lib.hid hH
  have HS0 := Lib.hid hs0
  obtain ⟨T, hT⟩ : ∃ T, (⟨(joinW (actL k u)).toArray⟩ : ByteArray) = T := ⟨_, rfl⟩
  rw [hT] at KA
  have HT := Lib.hid hT
  clear hl hm hnl hW0 hB0 hP0 hs0 ht hT
  go_enter Tryz.func22, Tryz.ntmps22
  go_upto_region 1 with fail
  rw [HW.out]
  (try rw [hH])
  clear hH
  go_wp2_with fail
  refine KA.out.mono ?_
  rintro e w1 ⟨rfl, hB1⟩
  obtain ⟨Z, hZ⟩ : ∃ Z, w1.heap.size = Z := ⟨_, rfl⟩
  have hZH : H + 1 ≤ Z := by rw [← hZ, ← HS0.out]; exact hB1.size
  obtain ⟨W1, hW1⟩ : ∃ W, w1.alloc (.cells #[.string ⟨#[100, 101, 102, 97, 117, 108, 116]⟩, .string T] 9) = W := ⟨_, rfl⟩
  have hb11 : Below Z w1 W1 := by rw [← hW1, ← hZ]; exact (Below.refl _ _).alloc (Nat.le_refl _) _
  have hz1 : RowC W1 Z #[.string ⟨#[100, 101, 102, 97, 117, 108, 116]⟩, .string T] 9 := by rw [← hW1, ← hZ]; exact RowC.new _ _ _ _ rfl
  have hs1 : W1.heap.size = Z + 1 := by rw [← hW1, ← hZ]; simp
  obtain ⟨W2, hW2⟩ : ∃ W, W1.alloc (.cells #[.int .i64 0, .slice (some ⟨Z, 0, none⟩) 2 2] 87) = W := ⟨_, rfl⟩
  have hb12 : Below (Z + 1) W1 W2 := by rw [← hW2, ← hs1]; exact (Below.refl _ _).alloc (Nat.le_refl _) _
  have hown2 : OwnC W2 (H + 1) 87 2 (some ⟨Z + 1, 0, none⟩) 1 1 (lcell [⟨0, Z, 2, [dfW.data.toList, joinW (actL k u)]⟩]) := by
    rw [← hW2, ← hs1]
    exact own_line W1 (H + 1) (by omega) ⟨0, Z, 2, [dfW.data.toList, joinW (actL k u)]⟩
  have hlr2 : LR W2 [⟨0, Z, 2, [dfW.data.toList, joinW (actL k u)]⟩] := fun y hy => by
    rw [List.mem_singleton] at hy
    subst hy
    refine ⟨List.cons_ne_nil _ _, Nat.le_refl _, ?_⟩
    refine (WR.two (w := W1) ?_).below hb12 (Nat.lt_succ_self _)
    rw [HT.out]
    exact hz1
  have hB2 : Below H w W2 := HB0.out.trans ((hB1.trans ((hb11.mono (by rw [← hZ]; exact hB1.size)).trans (hb12.mono (by rw [← hs1, HS0.out]; omega)))).mono (by rw [HS0.out]; omega))
  have hP2 : RowC W2 H (polA k u x A n c) 26 := ((HP0.out.below hB1 HP0.out.lt).below hb11 (by omega)).below hb12 (by omega)
  have p2 := hP2.cell 2 (.bool x) rfl
  have HO2 := Lib.hid (And.intro hown2 hlr2)
  have HB2 := Lib.hid hB2
  have HP2 := Lib.hid hP2
  have hs2 : Z + 2 = W2.heap.size := by rw [← hW2]; simp [hs1]
  have HS2 := Lib.hid hs2
  have HW1 := Lib.hid hW1
  have HW2 := Lib.hid hW2
  have HS1 := Lib.hid hs1
  clear hB1 hb11 hz1 hs1 hb12 hown2 hlr2 hB2 hP2 hs2 hW1 hW2 KA p0 p1
  go_upto_region 2 with fail
  (try rw [hZ])
  rw [HW1.out]
  (try rw [HW2.out])
  clear hZ
  have HZH := Lib.hid hZH
  obtain ⟨hdr, hhdr⟩ : ∃ h, chunkL k u x [] = h := ⟨_, rfl⟩
  have HHD := Lib.hid hhdr
  clear hhdr
  cases x
  case' false =>
    go_upto_region 4 with fail
    obtain ⟨ls0, hls0⟩ : ∃ ls0 : List Ln, [⟨0, Z, 2, [dfW.data.toList, joinW (actL k u)]⟩] = ls0 := ⟨_, rfl⟩
    obtain ⟨V0, hV0⟩ : ∃ V, Value.slice (some ⟨Z + 1, 0, none⟩) 1 1 = V := ⟨_, rfl⟩
    have HV : Hid (∃ A3 c3, V0 = .slice A3 ls0.length c3 ∧ OwnC W2 (H + 1) 87 2 A3 ls0.length c3 (lcell ls0) ∧ LR W2 ls0 ∧ ls0.map (·.ws) = hdr ∧ ls0.length ≤ 2) := Lib.hid (by
      rw [← hls0, ← hV0]
      exact ⟨_, _, rfl, HO2.out.1, HO2.out.2, HHD.out, by simp⟩)
    rw [hV0]
    have HB3 := HB2
    have HP3 := HP2
    have HS3 : Hid (H + 1 ≤ W2.heap.size) := Lib.hid (by have := HS2.out; have := HZH.out; omega)
    clear hls0 hV0 HS2 HW1 HW2 HB2 HP2
    rename World => W3
  case' true =>
    obtain ⟨S, hS⟩ : ∃ S, W2.heap.size = S := ⟨_, rfl⟩
    have hSH : H + 3 ≤ S := by rw [← hS, ← HS2.out]; have := HZH.out; omega
    obtain ⟨V1, hV1⟩ : ∃ V, W2.alloc (.cells #[.string ⟨#[120, 51, 50]⟩, .string ⟨#[111, 110]⟩] 9) = V := ⟨_, rfl⟩
    have hv1 : RowC V1 S #[.string ⟨#[120, 51, 50]⟩, .string ⟨#[111, 110]⟩] 9 := by rw [← hV1, ← hS]; exact RowC.new _ _ _ _ rfl
    have hbv1 : Below S W2 V1 := by rw [← hV1, ← hS]; exact (Below.refl _ _).alloc (Nat.le_refl _) _
    have hsv1 : V1.heap.size = S + 1 := by rw [← hV1, ← hS]; simp
    obtain ⟨V2, hV2⟩ : ∃ V, V1.alloc (.cells #[.int .i64 0, .slice (some ⟨S, 0, none⟩) 2 2] 87) = V := ⟨_, rfl⟩
    have hbv2 : Below (S + 1) V1 V2 := by rw [← hV2, ← hsv1]; exact (Below.refl _ _).alloc (Nat.le_refl _) _
    have hv2 : RowC V2 (S + 1) #[.int .i64 0, .slice (some ⟨S, 0, none⟩) 2 2] 87 := by rw [← hV2, ← hsv1]; exact RowC.new _ _ _ _ rfl
    have hbW : Below S W2 V2 := hbv1.trans (hbv2.mono (Nat.le_succ _))
    have HOW := Lib.hid (And.intro (HO2.out.1.below hbW (Nat.le_of_eq hS)) (HO2.out.2.below (by rw [hS]; exact hbW)))
    have hly : LR V2 [⟨0, S, 2, [x3W.data.toList, (onW true).data.toList]⟩] := fun y hy => by
      rw [List.mem_singleton] at hy
      subst hy
      exact ⟨List.cons_ne_nil _ _, Nat.le_refl _, (WR.two (w := V1) hv1).below hbv2 (Nat.lt_succ_self _)⟩
    have HLY := Lib.hid hly
    have HV2 := Lib.hid hv2
    have HBV := Lib.hid (show Below H w V2 from HB2.out.trans (hbW.mono (by omega)))
    have HPV := Lib.hid (HP2.out.below hbW (by rw [← hS]; exact HP2.out.lt))
    have hsv2 : H + 3 ≤ V2.heap.size := by have := hbv2.size; omega
    have hsz2 := Lib.hid hsv2
    have hSH' := Lib.hid hSH
    clear hv1 hbv1 hsv1 hbv2 hv2 hbW hly hSH hsv2
    subst hV2
    subst hV1
    subst hS
    go_upto_region 4 with (at_builtin; go_must (refine app_line rfl _ _ rfl (ls := [⟨0, Z, 2, [dfW.data.toList, joinW (actL k u)]⟩]) ⟨0, W2.heap.size, 2, [x3W.data.toList, (onW true).data.toList]⟩ rfl rfl HOW.out.1 HOW.out.2 rfl ⟨by decide, by decide⟩ HV2.out HLY.out (by decide) (Nat.le_trans (by omega) hsz2.out) ?_; rintro A3 c3 w5 ho5 hlr5 hb5))
    obtain ⟨ls0, hls0⟩ : ∃ ls0 : List Ln, [⟨0, Z, 2, [dfW.data.toList, joinW (actL k u)]⟩] ++ [⟨0, W2.heap.size, 2, [x3W.data.toList, (onW true).data.toList]⟩] = ls0 := ⟨_, rfl⟩
    obtain ⟨V0, hV0⟩ : ∃ V, Value.slice A3 (1 + 1) c3 = V := ⟨_, rfl⟩
    have HV : Hid (∃ A3 c3, V0 = .slice A3 ls0.length c3 ∧ OwnC w5 (H + 1) 87 2 A3 ls0.length c3 (lcell ls0) ∧ LR w5 ls0 ∧ ls0.map (·.ws) = hdr ∧ ls0.length ≤ 2) := Lib.hid (by
      rw [← hls0, ← hV0]
      exact ⟨A3, c3, rfl, ho5, hlr5, HHD.out, by simp⟩)
    rw [hV0]
    have HB3 := Lib.hid (HBV.out.trans (hb5.mono (Nat.le_succ H)))
    have HP3 : Hid (RowC w5 H (polA k u true A n c) 26) := Lib.hid (HPV.out.below hb5 (Nat.lt_succ_self H))
    have HS3 : Hid (H + 1 ≤ w5.heap.size) := Lib.hid (by have := hsz2.out; have := hb5.size; omega)
    clear hls0 hV0 ho5 hlr5 hb5 HOW HLY HV2 HBV HPV hsz2 hSH' HO2 HB2 HP2 HS2 HW1 HW2
    rename World => W3
  all_goals
    have p3 := HP3.out.cell 3 (.slice A n c) rfl
    go_wp2_with fail
    go_loopw [3, 22] (fun v i wr => ∃ (q : Nat) (A' : Option Addr) (c' m : Nat), q ≤ n ∧ i = .int .i64 q ∧ v = .slice A' m c' ∧ m ≤ q + 2 ∧ Hid (∃ ls : List Ln, ls.length = m ∧ OwnC wr (H + 1) 87 2 A' m c' (lcell ls) ∧ LR wr ls ∧ ls.map (·.ws) = hdr ++ ((l.take q).map RL.val).map pieceR ∧ Below H w wr ∧ H + 1 ≤ wr.heap.size)) (fun _ i _ => n - (intOf i).toNat)
    case atStart =>
      obtain ⟨A3, c3, hv0, ho, hl0, hc0, hlen0⟩ := HV.out
      exact ⟨0, A3, c3, ls0.length, Nat.zero_le _, rfl, hv0, by omega, Lib.hid ⟨ls0, rfl, ho, hl0, by rw [hc0]; simp, HB3.out, HS3.out⟩⟩
    case round =>
      obtain ⟨q, A', c', m, hq, rfl, rfl, hmq, HI⟩ := hrel
      by_cases hlt : q < n
      · obtain ⟨ls, hlm, hown, hlr, hch, hbw, hsz⟩ := HI.out
        have hlq : q < l.length := by rw [HNL.out]; exact hlt
        have hmem : l[q]! ∈ l := by rw [getElem!_pos l q hlq]; exact List.getElem_mem hlq
        have hRr := HRL.out.below hbw (Nat.le_of_eq HH.out)
        have hru := hRr.2 _ hmem
        rcases hRr.1 with h0 | ⟨bb, o, hA, hbl, hcs⟩
        · rw [h0] at hlq; exact absurd hlq (Nat.not_lt_zero _)
        obtain ⟨q0, q1, q2, q3⟩ := hcs q hlq
        obtain ⟨r, hr⟩ : ∃ r, l[q]! = r := ⟨_, rfl⟩
        rw [hr] at q0 q1 q2 q3 hmem hru
        rw [Nat.add_zero] at q0
        have HTK := Lib.hid (show (l.take (q + 1)).map RL.val = (l.take q).map RL.val ++ [r.val] by rw [List.take_add_one, List.getElem?_eq_getElem hlq, List.map_append, ← hr, getElem!_pos l q hlq]; rfl)
        obtain ⟨Y, hY⟩ : ∃ Y, wr.heap.size = Y := ⟨_, rfl⟩
        obtain ⟨W4, hW4⟩ : ∃ W, wr.alloc (.cells (rulA r.nm r.k r.u r.A r.n r.c) 50) = W := ⟨_, rfl⟩
        have hb4 : Below Y wr W4 := by rw [← hW4, ← hY]; exact (Below.refl _ _).alloc (Nat.le_refl _) _
        have hr4 : RowC W4 Y (rulA r.nm r.k r.u r.A r.n r.c) 50 := by rw [← hW4, ← hY]; exact RowC.new _ _ _ _ rfl
        have s0 := hr4.cell 0 (.string r.nm) rfl
        have s1 := hr4.cell 1 (.int .i64 r.k) rfl
        have s2 := hr4.cell 2 (.int .i64 r.u) rfl
        have s3 := hr4.cell 3 (.slice r.A r.n r.c) rfl
        have hbw4 : Below H w W4 := hbw.trans (hb4.mono (by rw [← hY]; omega))
        have hmr := HM.out r hmem
        have KW := Lib.hid (wordsOf_any r W4 ((hru.2.2.2.2.2.keep (KeepC.of_below hb4 (Nat.le_of_eq hY))).conA) hmr.1 hmr.2.1 hmr.2.2 (tab_on HTW.out hbw4 (Nat.le_of_eq HH.out)))
        have HO4 := Lib.hid (And.intro (hown.below hb4 (Nat.le_of_eq hY)) (hlr.below (by rw [hY]; exact hb4)))
        have HCH := Lib.hid hch
        have HLM := Lib.hid hlm
        have HBW4 := Lib.hid hbw4
        have HW4 := Lib.hid hW4
        have hsz4 := Lib.hid (show H + 1 ≤ W4.heap.size by have := hb4.size; omega)
        have i1 : (0 : Int) ≤ (q : Int) := by omega
        have i2 : (q : Int) < (n : Int) := by omega
        rw [hA]
        clear hown hlr hch hbw hsz hlq hmem hRr hru hcs hr hb4 hr4 hbw4 hmr hlm hW4 hA
        go_upto_region 7 with fail
        (try rw [hY])
        rw [HW4.out]
        clear hY q0 q1 q2 q3
        go_wp2_with fail
        refine KW.out.mono ?_
        rintro e w5 ⟨b5, c5, rfl, hc5, hwr5, hb5, hB5⟩
        have hly5 : LR w5 [⟨0, b5, c5, pieceR r.val⟩] := fun z hz => by
          rw [List.mem_singleton] at hz
          subst hz
          exact ⟨List.cons_ne_nil _ _, hc5, hwr5⟩
        have HLY5 := Lib.hid hly5
        have HO5 := Lib.hid (And.intro (HO4.out.1.below hB5 (Nat.le_refl _)) (HO4.out.2.below hB5))
        have hs5 : H + 1 ≤ w5.heap.size := Nat.le_trans hsz4.out hB5.size
        have hs4 : H ≤ W4.heap.size := Nat.le_trans (Nat.le_succ H) hsz4.out
        have HB5 := Lib.hid (HBW4.out.trans (hB5.mono hs4))
        clear hly5 hB5 hwr5 hb5 hc5 s0 s1 s2 s3 p2 p3
        go_wp2_with (at_builtin; go_must (refine app_line rfl _ _ rfl (ls := ls) ⟨0, b5, c5, pieceR r.val⟩ rfl HLM.out (HO5.out.1.alloc _) (HO5.out.2.alloc _) rfl ⟨by decide, by decide⟩ (RowC.new _ _ _ _ rfl) (HLY5.out.alloc _) (by omega) (by simp; omega) ?_; rintro A6 c6 w6 ho6 hlr6 hb6))
        have hs6 := hb6.size
        simp only [World.size_alloc] at hs6
        exact ⟨⟨q + 1, A6, c6, m + 1, by omega, by go_num, rfl, by omega, Lib.hid ⟨ls ++ [⟨0, b5, c5, pieceR r.val⟩], by simp [HLM.out], ho6, hlr6, by rw [List.map_append, HCH.out, HTK.out, List.map_append, List.append_assoc]; rfl, (HB5.out.alloc (show H ≤ w5.heap.size by omega) _).trans (hb6.mono (Nat.le_succ H)), by omega⟩⟩, by simp [intOf]; omega⟩
      · obtain rfl : q = n := by omega
        obtain ⟨ls, hlm, hown, hlr, hch, hbw, hsz⟩ := HI.out
        have htk : l.take q = l := List.take_of_length_le (by rw [HNL.out]; exact Nat.le_refl _)
        go_wp2
        go_ret
        subst hlm
        exact ⟨A', c', ls, rfl, hown.lower (by rw [HH.out]; omega), hlr, by rw [hch, htk, chunk_split, HHD.out], by rw [HH.out]; exact hbw⟩
end Go.Proofs.YtccklmleaffgiaaGreatDoor
