/-
  Layer 21: asm.programOf: the program of items.
-/
import Derived.Test.YtiofgaadfbjnoaaAs9
import Derived.Test.YtiofgaadfbjnoaaAsE
import Derived.Test.YtiofgaadfbjnoaaAs11
namespace Go.Proofs.Ytiofgaadfbjnoaa
open Go.RowKit Go.Shelf
set_option linter.unusedVariables false
attribute [local go_sem] Oper.semAt_some

theorem ix0 (a b : Value) (W : World) : (Instr.index 87 (.agg #[a, b]) (.int .i64 0)).run Try.prog W = .ok a W := by kernel_rfl
theorem ix1 (a b : Value) (W : World) : (Instr.index 87 (.agg #[a, b]) (.int .i64 1)).run Try.prog W = .ok b W := by kernel_rfl
def stF (G : Nat → IT) {m : Nat} (pre : List (Fin m)) : List IV × (Int → Nat) := pSt (pre.map fun x => G x.1)
theorem stF_snoc (G : Nat → IT) {m : Nat} (pre : List (Fin m)) (x : Fin m) : stF G (pre ++ [x]) = pStep (stF G pre) (G x.1) := by
  unfold stF
  rw [List.map_append, List.map_singleton, pSt_snoc]
set_option maxRecDepth 100000 in
set_option maxHeartbeats 16000000 in
theorem programOf_any (A : Option Addr) (n c : Nat) (l : List IT) (w : World) (hn : l.length = n) (hn1 : n ≤ 1000000) (hr : Cel w w.heap.size 5 A n c (itcell fun i => l[i]!)) (hok : ∀ x ∈ l, x.ok) (hpos : 0 < (rchI l).length) :
    Calls Try.prog 18 #[.slice A n c] w fun e w' => ∃ A' c', e = .returned (.slice A' (progI l).length c') ∧ OwnC w' w.heap.size 52 4 A' (progI l).length c' (icell fun i => (progI l)[i]!) ∧ Below w.heap.size w w' := by
  have hmm := @run_makeMap Try.prog
  have hmf : ∀ (fn : Fn) (first cap : Array Value) (w : World), (Instr.makeFunc fn first cap).run Try.prog w = .ok (.func fn first cap) w := fun _ _ _ _ => rfl
  obtain ⟨B, hBs⟩ : ∃ B, w.heap.size = B := ⟨_, rfl⟩
  obtain ⟨W1, hW1⟩ : ∃ W, (((w.alloc (.cells #[.slice none 0 0] 29)).alloc (.map #[] 0)).alloc (.cells #[.map (some (B + 1))] 71)).alloc (.cells #[.func (.func 31) #[] #[.pointer (some ⟨B, 0, none⟩), .pointer (some ⟨B + 2, 0, none⟩)]] 78) = W := ⟨_, rfl⟩
  have HW1 := Lib.hid hW1
  have HR := Lib.hid hr
  have HOK := Lib.hid hok
  clear hW1 hr hok
  refine (callsIn_wide (n := 6)).1 ?_
  have hro : (Fence.wide).round = none := rfl
  refine callsIn_of_wp_marks Try.func18 rfl trivial ?_ hro
  simp only [Try.ntmps18, List.size_toArray, List.length_cons, List.length_nil, Nat.reduceAdd, Nat.reduceSub, Array.replicate_succ, Array.replicate_zero, List.push_toArray, List.append_toArray, List.nil_append, List.cons_append]
  refine wpIn_wide.2 ?_
  go_wp2
  go_step3
  go_wp2_with fail
  simp only [show B + 1 + 1 = B + 2 from rfl, show B + 2 + 1 = B + 3 from rfl]
  rw [HW1.out]
  have hs1 : W1.heap.size = B + 4 := by rw [← HW1.out, ← hBs]; simp
  have hb1 : Below B w W1 := by rw [← HW1.out, ← hBs]; exact ((((Below.refl _ _).alloc (Nat.le_refl _) _).alloc (by simp) _).alloc (by simp; omega) _).alloc (by simp; omega) _
  have k0 : RowC W1 B #[.slice none 0 0] 29 := by rw [← HW1.out, ← hBs]; exact (((RowC.new _ _ _ _ rfl).alloc _).alloc _).alloc _
  have k2 : RowC W1 (B + 2) #[.map (some (B + 1))] 71 := by rw [← HW1.out, ← hBs]; exact (RowC.new _ _ _ _ (by simp)).alloc _
  have k3 : RowC W1 (B + 3) #[.func (.func 31) #[] #[.pointer (some ⟨B, 0, none⟩), .pointer (some ⟨B + 2, 0, none⟩)]] 78 := by rw [← HW1.out, ← hBs]; exact RowC.new _ _ _ _ (by simp)
  have k1 : PlM W1 (B + 1) 0 (fun _ => 0) := by
    have h := PlM.new (w.alloc (.cells #[.slice none 0 0] 29))
    rw [World.size_alloc, hBs] at h
    rw [← HW1.out]
    exact (h.kept (World.grownBy_alloc _ _ none) (by simp)).kept (World.grownBy_alloc _ _ none) (by simp)
  have HK := Lib.hid (And.intro k0 (And.intro k1 (And.intro k2 (And.intro k3 (And.intro hb1 hs1)))))
  have HRE := Lib.hid (reached_any A n c l W1 hn hn1 ((HR.out.below (by rw [hBs]; exact hb1)).more (by rw [hBs]; omega)) HOK.out)
  have HBS := Lib.hid hBs
  clear k0 k1 k2 k3 hb1 hs1 hBs
  go_step3
  go_wp2_with fail
  refine HRE.out.mono ?_
  rintro e w2 ⟨A2, c2, rfl, hown2, hB2⟩
  obtain ⟨m, hm⟩ : ∃ m, (rchI l).length = m := ⟨_, rfl⟩
  have hml : m ≤ n := by rw [← hm, ← hn]; exact rSt_len l
  rw [hm] at hown2 hpos ⊢
  have HM := Lib.hid hm
  obtain ⟨pb, rfl, hpb1, hpb2, hpc⟩ : ∃ pb, A2 = some ⟨pb, 0, none⟩ ∧ W1.heap.size ≤ pb ∧ pb < w2.heap.size ∧ ∀ i, i < m * 6 → w2.cell? ⟨pb, 0 + i, none⟩ = some (stcell (fun i => (rchI l)[i]!) i) := by
    obtain ⟨b, off, he, hlt, hc⟩ := hown2.cel.at_ (by omega)
    rcases hown2.2 with ⟨_, h0⟩ | ⟨g, cap, cs, e, hg, hr, _⟩
    · omega
    · injection e with e1
      rw [e1] at he
      injection he with he
      injection he with he1 he2
      subst he1 he2
      exact ⟨g, e1, hg, hlt, fun i hi => by have := hc i hi; rwa [Nat.zero_add] at this ⊢⟩
  have HB2 := Lib.hid hB2
  have HPC := Lib.hid hpc
  clear hm hown2 hB2 hpc
  go_wp2_with fail
  refine (backward_any _ _ _ _).mono ?_
  rintro e w3 ⟨rfl, hw3⟩
  go_wp2_with fail
  obtain ⟨S2, hS2⟩ : ∃ S2, w2.heap.size = S2 := ⟨_, rfl⟩
  obtain ⟨W3, hW3⟩ : ∃ W, w2.alloc (.cells #[.slice (some ⟨pb, 0, none⟩) m c2] 82) = W := ⟨_, rfl⟩
  have hb3 : Below S2 w2 W3 := by rw [← hW3, ← hS2]; exact (Below.refl _ _).alloc (Nat.le_refl _) _
  have hs3 : W3.heap.size = S2 + 1 := by rw [← hW3, ← hS2]; simp
  have hr3 : RowC W3 S2 #[.slice (some ⟨pb, 0, none⟩) m c2] 82 := by rw [← hW3, ← hS2]; exact RowC.new _ _ _ _ rfl
  have hsz2 : B + 4 ≤ S2 := by have h1 := HB2.out.size; have h2 := HK.out.2.2.2.2.2; omega
  obtain ⟨G, hG⟩ : ∃ G : Nat → IT, (fun i => (rchI l)[i]!) = G := ⟨_, rfl⟩
  rw [hG] at HPC
  have HG := Lib.hid hG
  clear hG
  have hb13 : Below (B + 4) W1 W3 := (HB2.out.mono (by rw [HK.out.2.2.2.2.2]; exact Nat.le_refl _)).trans (hb3.mono hsz2)
  have hi3 : PInvA W3 B (S2 + 1) 0 (stF G ([] : List (Fin m))) := ⟨⟨none, 0, HK.out.1.below hb13 (by omega), OwnC.nil_⟩, HK.out.2.1.below hb13 (by omega), HK.out.2.2.1.below hb13 (by omega), HK.out.2.2.2.1.below hb13 (by omega)⟩
  have hbw3 : Below B w W3 := HK.out.2.2.2.2.1.trans (hb13.mono (by omega))
  have hpc3 : ∀ i, i < m * 6 → W3.cell? ⟨pb, 0 + i, none⟩ = some (stcell G i) := fun i hi => (hb3.cell (p := ⟨pb, 0 + i, none⟩) (by rw [← hS2]; exact hpb2)).trans (HPC.out i hi)
  rw [hS2] at hpb2
  have hpbB : B + 4 ≤ pb := by have := HK.out.2.2.2.2.2; omega
  obtain ⟨⟩ : w3 = _ := hw3
  rw [hW3]
  (try rw [hS2])
  clear hW3 hS2 hb3 hb13 HK HB2 HPC HRE
  refine (wpIn_wide (n := 6)).1 ?_
  refine wpIn_rangeFunc_ownH hro (by decide) (gf := 47) (lb := #[.pointer (some ⟨S2, 0, none⟩)]) rfl trivial (enters_of Try.func47 (by kernel_rfl) rfl)
    (bw_stops Fence.wide (6 - 1) trivial hro (by decide) G m c2 S2 pb 0 (by omega) W3 (by omega) (by omega) (hr3.cell 0 _ rfl) hpc3) (fun h k => K2.trans h k) (K2.book (by omega) (by omega)) (Below.refl _ _) (fun _ => rfl)
    (fun pre W => PInvA W B (S2 + 1) pre.length (stF G pre) ∧ Below B w W ∧ S2 + 1 ≤ W.heap.size)
    (fun _ _ _ => False)
    (by rw [hs3]; exact OwnFrom.and (pinvA_from B (S2 + 1) (by omega) (fun pre : List (Fin m) => stF G pre) (fun pre => pre.length)) (OwnFrom.and (ownFrom_below (by rw [HBS.out]; exact Nat.le_refl _) (by omega)) (fun s W W' row h hg _ => Nat.le_trans h hg.size)))
    (fun _ _ _ _ _ hs _ _ => hs)
    ⟨hi3, hbw3, by omega⟩
    (fun x a' W => ∃ Px, S2 + 1 ≤ Px ∧ RowC W Px #[.int .i64 (G x.1).m, .int .u16 (G x.1).c, .int .u32 (G x.1).k, .int .i64 (G x.1).t, .int .i64 (G x.1).f, .int .i64 (ik (G x.1))] 84 ∧ a' = { tmps := #[.slice A n c, undef, .slice none 0 0, .pointer (some ⟨B, 0, none⟩), .pointer (some ⟨B + 2, 0, none⟩), .pointer (some ⟨B + 3, 0, none⟩), undef, .pointer (some ⟨Px, 0, none⟩), undef, undef, .map (some (B + 1)), .func (.func 31) #[] #[.pointer (some ⟨B, 0, none⟩), .pointer (some ⟨B + 2, 0, none⟩)], .slice A n c, .slice (some ⟨pb, 0, none⟩) m c2, .func (.func 47) #[] #[.pointer (some ⟨S2, 0, none⟩)], .int .i64 (x.1 : Int), stA (G x.1), undef, undef, undef, undef, undef, undef, undef, undef, undef, undef, undef, undef, undef, undef, undef, undef, undef, undef, undef, undef, undef, undef, undef, undef, undef, undef, undef, undef, undef, undef, undef, undef, undef, undef, undef, undef, undef, undef, undef, undef, undef, undef, undef, undef, undef, undef, undef, undef, undef, undef, undef, undef, undef, undef, undef, undef, undef, undef, undef, undef, undef, undef, undef, undef, undef, undef, undef, undef, undef, undef, undef, undef, undef, undef, undef], defers := [] })
    (fun x a' => Own.from (fun s X Y row hs hg hr => by
      obtain ⟨Px, h1, h2, h3⟩ := hs
      exact ⟨Px, h1, (grownBy_keeps_cells hg hr h2 rfl).trans h2, h3⟩) _) ?assign ?body ?done ?stop
  case assign =>
    rintro l' pre x W K ⟨hI, hB, hWlo⟩ hK
    have hP := hI.1
    obtain ⟨A', c', hA, _⟩ := hI.1
    have hWs : S2 + 1 ≤ W.heap.size := hWlo
    gi_wp2
    refine hK _ _ ((KeepsOthers.alloc _ _).from _) ⟨Below.heap_alloc _ _ _ (by omega), Below.heap_alloc _ _ _ (by omega)⟩ ⟨hI.below ((Below.refl _ _).alloc (Nat.le_refl _) _) (by omega), hB.alloc (by have := hA.lt; omega) _, by simp; omega⟩ ⟨_, hWs, RowC.new _ _ _ _ rfl, rfl⟩
  case body =>
    rintro l' pre x a' W hl ⟨r, hr⟩ ⟨hI, hB, hWlo⟩ ⟨Px, hPx, hrx, rfl⟩ hlen
    have HX : Hid (stF G (pre ++ [x]) = pStep (stF G pre) (G x.1)) := Lib.hid (stF_snoc G pre x)
    obtain ⟨y, hy⟩ : ∃ y, G x.1 = y := ⟨_, rfl⟩
    rw [hy] at HX hrx ⊢
    have hyo : y.ok := by
      rw [← hy, ← HG.out]
      have h := HM.out
      exact HOK.out _ (rSt_mem l _ (by show (rchI l)[x.1]! ∈ rchI l; rw [getElem!_pos _ _ (by rw [h]; exact x.2)]; exact List.getElem_mem _))
    obtain ⟨KK, hKK⟩ : ∃ z, ik y = z := ⟨_, rfl⟩
    rw [hKK] at hrx
    have HKK := Lib.hid hKK
    have HYO := Lib.hid hyo
    obtain ⟨N, hN⟩ : ∃ N, pre.length = N := ⟨_, rfl⟩
    rw [hN] at hI hlen
    have HNN := Lib.hid hN
    have HPL := Lib.hid (show (stF G pre).1.length ≤ 3 * N from by
      have h := (pSt_bound (pre.map fun z => G z.1)).1
      rw [List.length_map, hN] at h
      exact h)
    obtain ⟨st, hst⟩ : ∃ st, stF G pre = st := ⟨_, rfl⟩
    rw [hst] at hI HX HPL
    have HST0 := HX
    clear HST0
    have p0 := hrx.cell 0 _ rfl
    have p1 := hrx.cell 5 _ rfl
    have HI := Lib.hid hI
    have HST := Lib.hid hst
    obtain ⟨A', c', hA, hO⟩ := hI.1
    have q0 := hA.cell 0 _ rfl
    have q2 := hI.2.2.1.cell 0 _ rfl
    have q3 := hI.2.2.2.cell 0 _ rfl
    have HRX := Lib.hid hrx
    have HA := Lib.hid hA
    have HO := Lib.hid hO
    clear hKK hN hst hI hA hO hyo hrx hy
    have hWl : S2 + 1 ≤ W.heap.size := by have h := (Array.getElem?_eq_some_iff.1 hr).1; omega
    obtain ⟨E, hE⟩ : ∃ E, W.heap.size = E := ⟨_, rfl⟩
    rw [hE] at hWl
    have HE := Lib.hid hE
    have hPE : Px < E := by rw [← hE]; exact HRX.out.lt
    have HSV : Hid (∀ V, Below E W V → V.cell? ⟨B, 0, none⟩ = some (.slice A' st.1.length c') ∧ V.cell? ⟨B + 3, 0, none⟩ = some (.func (.func 31) #[] #[.pointer (some ⟨B, 0, none⟩), .pointer (some ⟨B + 2, 0, none⟩)]) ∧
        V.cell? ⟨Px, 0, none⟩ = some (.int .i64 y.m) ∧ V.cell? ⟨Px, 1, none⟩ = some (.int .u16 y.c) ∧ V.cell? ⟨Px, 2, none⟩ = some (.int .u32 y.k) ∧ V.cell? ⟨Px, 3, none⟩ = some (.int .i64 y.t) ∧ V.cell? ⟨Px, 4, none⟩ = some (.int .i64 y.f) ∧ V.cell? ⟨Px, 5, none⟩ = some (.int .i64 KK)) := Lib.hid fun V hV => by
      have h := HRX.out.below hV hPE
      exact ⟨(hV.cell (p := ⟨B, 0, none⟩) (by show B < E; omega)).trans q0, (hV.cell (p := ⟨B + 3, 0, none⟩) (by show B + 3 < E; omega)).trans q3, h.cell 0 _ rfl, h.cell 1 _ rfl, h.cell 2 _ rfl, h.cell 3 _ rfl, h.cell 4 _ rfl, h.cell 5 _ rfl⟩
    have hlen3 := HPL.out
    have HFQ : Hid (∀ tq, (Lit.int .i64 tq).wf = true → ∀ V, Below E W V → Calls Try.prog 31 #[.int .i64 tq, .pointer (some ⟨B, 0, none⟩), .pointer (some ⟨B + 2, 0, none⟩)] V fun e w' => e = .returned (.int .i64 ((farN st.1 st.2 tq : Nat) : Int)) ∧ w' = V) := Lib.hid fun tq htq V hV => by
      refine asmFar_any tq B (B + 2) (B + 1) st.1.length c' A' st.2 N V (HSV.out V hV).1 ((hV.cell (p := ⟨B + 2, 0, none⟩) (by show B + 2 < E; omega)).trans q2) (HI.out.2.1.below hV (by omega)) htq ?_ (by omega)
      have h := (pSt_bound (pre.map fun z => G z.1)).2 tq
      have h2 : pSt (pre.map fun z => G z.1) = st := HST.out
      rwa [h2] at h
    obtain ⟨ft, hft⟩ : ∃ z, farN st.1 st.2 y.t = z := ⟨_, rfl⟩
    obtain ⟨ff, hff⟩ : ∃ z, farN st.1 st.2 y.f = z := ⟨_, rfl⟩
    have hlt : ft ≤ st.1.length := by rw [← hft]; exact farN_le _ _ _
    have hlf : ff ≤ st.1.length := by rw [← hff]; exact farN_le _ _ _
    have HLT : Hid (ft < 4294967296) := Lib.hid (by omega)
    have HLF2 : Hid (ff < 4294967296) := Lib.hid (by omega)
    have HLT1 : Hid (ft + 1 < 4294967296) := Lib.hid (by omega)
    have HW9 : Hid (IntKind.i64.wrap ((ft : Int) + 1) = ((ft + 1 : Nat) : Int)) := Lib.hid (by rw [IntWalk.i64_in _ (by omega)]; omega)
    have HWI : Hid (∀ a b : Nat, a < 256 → b < 256 → ∀ V, Calls Try.prog 35 #[.agg #[.int .i64 y.m, .int .u16 y.c, .int .u32 y.k, .int .i64 y.t, .int .i64 y.f, .int .i64 KK], .int .i64 (a : Int), .int .i64 (b : Int)] V fun e w' => e = .returned (.agg #[.int .u16 y.c, .int .u8 (a : Int), .int .u8 (b : Int), .int .u32 y.k]) ∧ Below V.heap.size V w') := Lib.hid fun a b ha hb V => by
      rw [← HKK.out]
      exact with_any y a b ha hb V
    have HFT := Lib.hid (HFQ.out y.t HYO.out.2.2.2.1)
    have HFF := Lib.hid (HFQ.out y.f HYO.out.2.2.2.2)
    rw [hft] at HFT
    rw [hff] at HFF
    have HOB : Hid (∀ V, Below E W V → OwnC V (S2 + 1) 52 4 A' st.1.length c' (icell fun i => st.1[i]!)) := Lib.hid fun V hV => HO.out.below hV (by omega)
    have HFE := Lib.hid (And.intro hft hff)
    clear hft hff hlen3 hlt hlf
    by_cases hm0 : y.m = 0
    · by_cases h13 : KK = 13
      · have HM0 := Lib.hid hm0
        have hm9 := hm0
        rw [hm9] at p0
        subst h13
        clear hm0 hm9
        gi_wp2
        refine wpIn_region_E (S := fun V => Below E W V) 8 (by kernel_rfl) (by kernel_rfl) ?_
        have hHeld : Below E W W.drew := (Below.refl _ _).drew
        refine wpAnyE_take (i := 0) (oi := ({ dst := some 32, op := Op.load 29 (Operand.tmp 3), type := 29, pos := "asm.go:62", after := #[], guard := none } : Oper)) (v := ?vj0x1) rfl (by kernel_rfl) (by decide) (by kernel_rfl) (fun _ _ _ h => by cases h.1) (by rfl) ?hj0x1 hHeld ?rj0x1
        case hj0x1 =>
          intro V hV
          obtain ⟨s0, s1, s2, s3, s4, s5, s6, s7⟩ := HSV.out V hV
          go_simp
          all_goals with_reducible rfl
        try simp only [Act.put, List.setIfInBounds_toArray, List.set_cons_zero, List.set_cons_succ]
        refine wpAnyE_take (i := 1) (oi := ({ dst := some 33, op := Op.load 78 (Operand.tmp 5), type := 78, pos := "asm.go:62", after := #[], guard := none } : Oper)) (v := ?vj1x2) rfl (by kernel_rfl) (by decide) (by kernel_rfl) (fun _ _ _ h => by cases h.1) (by rfl) ?hj1x2 hHeld ?rj1x2
        case hj1x2 =>
          intro V hV
          obtain ⟨s0, s1, s2, s3, s4, s5, s6, s7⟩ := HSV.out V hV
          go_simp
          all_goals with_reducible rfl
        try simp only [Act.put, List.setIfInBounds_toArray, List.set_cons_zero, List.set_cons_succ]
        refine wpAnyE_take (i := 2) (oi := ({ dst := some 34, op := Op.fieldAddr 84 (Operand.tmp 7) 0, type := 0, pos := "asm.go:62", after := #[], guard := none } : Oper)) (v := ?vj2x3) rfl (by kernel_rfl) (by decide) (by kernel_rfl) (fun _ _ _ h => by cases h.1) (by rfl) ?hj2x3 hHeld ?rj2x3
        case hj2x3 =>
          intro V hV
          obtain ⟨s0, s1, s2, s3, s4, s5, s6, s7⟩ := HSV.out V hV
          go_simp
          all_goals with_reducible rfl
        try simp only [Act.put, List.setIfInBounds_toArray, List.set_cons_zero, List.set_cons_succ]
        refine wpAnyE_take (i := 3) (oi := ({ dst := some 35, op := Op.fieldAddr 27 (Operand.tmp 34) 3, type := 0, pos := "asm.go:62", after := #[{ on := 2, ground := Ground.data }], guard := none } : Oper)) (v := ?vj3x4) rfl (by kernel_rfl) (by decide) (by kernel_rfl) (fun _ _ _ h => by cases h.1) (by rfl) ?hj3x4 hHeld ?rj3x4
        case hj3x4 =>
          intro V hV
          obtain ⟨s0, s1, s2, s3, s4, s5, s6, s7⟩ := HSV.out V hV
          go_simp
          all_goals with_reducible rfl
        try simp only [Act.put, List.setIfInBounds_toArray, List.set_cons_zero, List.set_cons_succ]
        refine wpAnyE_take (i := 4) (oi := ({ dst := some 36, op := Op.load 3 (Operand.tmp 35), type := 3, pos := "asm.go:62", after := #[{ on := 3, ground := Ground.data }], guard := none } : Oper)) (v := ?vj4x5) rfl (by kernel_rfl) (by decide) (by kernel_rfl) (fun _ _ _ h => by cases h.1) (by rfl) ?hj4x5 hHeld ?rj4x5
        case hj4x5 =>
          intro V hV
          obtain ⟨s0, s1, s2, s3, s4, s5, s6, s7⟩ := HSV.out V hV
          go_simp
          all_goals with_reducible rfl
        try simp only [Act.put, List.setIfInBounds_toArray, List.set_cons_zero, List.set_cons_succ]
        refine wpAnyE_call (i := 5) (oi := ({ dst := some 37, op := Op.call { callee := Callee.value (Operand.tmp 33), args := #[Operand.tmp 36], argTypes := #[3] }, type := 3, pos := "asm.go:62", after := #[{ on := 1, ground := Ground.data }, { on := 4, ground := Ground.data }], guard := none } : Oper)) (v := .int .i64 (ft : Int)) 31 #[.int .i64 y.t, .pointer (some ⟨B, 0, none⟩), .pointer (some ⟨B + 2, 0, none⟩)] rfl (by kernel_rfl) (by decide) (by kernel_rfl) (fun _ _ _ h => by cases h.1) (by rfl) ?hj5x6 ?cj5x6 hHeld ?rj5x6
        case hj5x6 =>
          intro V hV
          go_simp
        case cj5x6 => exact fun V hV => HFT.out V hV
        try simp only [Act.put, List.setIfInBounds_toArray, List.set_cons_zero, List.set_cons_succ]
        refine wpAnyE_ready (rs := [6]) (by kernel_rfl) (by simp) ?_
        refine (AllE.cons (o := ({ dst := some 38, op := Op.call { callee := Callee.value (Operand.func 34), args := #[Operand.tmp 37], argTypes := #[3] }, type := 52, pos := "asm.go:62", after := #[{ on := 5, ground := Ground.data }, { on := 5, ground := Ground.chain }], guard := none } : Oper)) rfl (by decide) (fun K hK => ?_) AllE.nil)
        go_simp
        refine (jump_any ft HLT.out _).mono ?_
        rintro e V1 ⟨rfl, hV1⟩
        have hH1 : Below E W V1 := hHeld.trans (hV1.mono (by rw [← HE.out]; exact hHeld.size))
        refine hK.out _ _ ?kj6x7 (fun hHeld2 => ?_)
        case kj6x7 => exact hH1
        clear hK K
        try simp only [Act.put, List.setIfInBounds_toArray, List.set_cons_zero, List.set_cons_succ]
        replace hHeld := hHeld2
        clear hHeld2
        refine wpAnyE_ready (rs := [7]) (by kernel_rfl) (by simp) ?_
        refine (AllE.cons (o := ({ dst := some 39, op := Op.buildSlice 29 1 #[(0, Operand.tmp 38)], type := 29, pos := "asm.go:62", after := #[{ on := 6, ground := Ground.data }], guard := none } : Oper)) rfl (by decide) (fun K hK => ?_) AllE.nil)
        go_simp
        refine hK.out _ _ ?kj7x8 (fun hHeld2 => ?_)
        case kj7x8 => exact hH1.alloc (by rw [← HE.out]; exact hH1.size) _
        clear hK K
        try simp only [Act.put, List.setIfInBounds_toArray, List.set_cons_zero, List.set_cons_succ]
        replace hHeld := hHeld2
        clear hHeld2
        refine wpAnyE_late (j := 8) (o := ({ dst := some 40, op := Op.call { callee := Callee.builtin Builtin.append, args := #[Operand.tmp 32, Operand.tmp 39], argTypes := #[29, 29] }, type := 29, pos := "asm.go:62", after := #[{ on := 0, ground := Ground.data }, { on := 7, ground := Ground.data }, { on := 6, ground := Ground.chain }], guard := none } : Oper)) (by kernel_rfl) (by decide) rfl (fun K hK => ?_)
        refine step_cellsG (by rfl) _ _ _ 52 (by rfl) Try.underlying29 infoI (by rfl) (by decide) (by rfl) (HOB.out _ hHeld) (by rfl) (ins1 V1 ⟨5, 0, 0, ft⟩ _) (fun i _ => icell_one _ i) (by unfold maxLen; have := HPL.out; omega) (by have := HPL.out; omega) (by have := hHeld.size; omega) (st.1.length + 1) rfl (icell fun i => (st.1 ++ [(⟨5, 0, 0, ft⟩ : IV)])[i]!) (fun i hi => icell_app st.1 [(⟨5, 0, 0, ft⟩ : IV)] i (by simpa using hi)) ?_
        rintro A8 c8 W8 hO8 hg8
        have HM8 := HI.out.more (st' := (st.1 ++ [(⟨5, 0, 0, ft⟩ : IV)], st.2)) (by omega) (W7 := _) (by rw [HE.out]; exact hHeld) A' c' HA.out HO.out hg8 hO8 (by simp) rfl
        have s8 := HM8.1.cell 0 _ rfl
        have s9 := HM8.1.frozen 0
        refine hK.out _ _ ?_
        clear hK K
        try simp only [Act.put, List.setIfInBounds_toArray, List.set_cons_zero, List.set_cons_succ]
        refine wpAnyE_late (j := 9) (o := ({ dst := none, op := Op.store 29 (Operand.tmp 3) (Operand.tmp 40), type := 0, pos := "asm.go:62", after := #[{ on := 8, ground := Ground.data }, { on := 8, ground := Ground.chain }, { on := 0, ground := Ground.phase }, { on := 1, ground := Ground.phase }, { on := 2, ground := Ground.phase }, { on := 3, ground := Ground.phase }, { on := 4, ground := Ground.phase }, { on := 5, ground := Ground.phase }, { on := 6, ground := Ground.phase }, { on := 7, ground := Ground.phase }, { on := 8, ground := Ground.phase }], guard := none } : Oper)) (by kernel_rfl) (by decide) rfl (fun K hK => ?_)
        go_simp
        refine hK.out _ _ ?_
        clear hK K
        try simp only [Act.put, List.setIfInBounds_toArray, List.set_cons_zero, List.set_cons_succ]
        refine wpAnyE_done (by kernel_rfl) ?_ _
        refine ⟨rfl, ?_⟩
        have HQ : Hid (pStep st y = (st.1 ++ [(⟨5, 0, 0, ft⟩ : IV)], st.2)) := Lib.hid (by unfold pStep; rw [if_neg (fun h => h HM0.out), if_pos HKK.out, HFE.out.1])
        clear HSV HFT HFF HFQ HOB HPL
        gi_wp2
        refine ⟨by rw [hs3]; exact HM8.2.2.1, ⟨HM8.2.2.2.1 S2 (by rw [HE.out]; omega) (by omega) (by omega), HM8.2.2.2.1 pb (by rw [HE.out]; omega) (by omega) (by omega)⟩, ?_, hB.trans HM8.2.2.2.2, Nat.le_trans hWlo HM8.2.2.2.2.size⟩
        rw [HX.out, HQ.out, List.length_append, HNN.out]
        exact HM8.2.1
      · have HM0 := Lib.hid hm0
        have hm9 := hm0
        rw [hm9] at p0
        have HK13 : Hid (¬ ik y = 13) := Lib.hid (by rw [HKK.out]; exact h13)
        have f13 : (KK == 13) = false := beq_eq_false_iff_ne.2 h13
        have u3 := (HSV.out W (Below.refl _ _)).2.2.2.2.2.1
        have u4 := (HSV.out W (Below.refl _ _)).2.2.2.2.2.2.1
        have hix0 := ix0
        have hix1 := ix1
        clear hm0 hm9
        gi_wp2
        gi_loopw [48] (fun i wr => ∃ q : Nat, q ≤ 2 ∧ i = .int .i64 q ∧ W = wr ∧ (0 < q → ft ≤ 255) ∧ (1 < q → ff ≤ 255)) (fun i _ => 2 - (intOf i).toNat)
        case atStart => exact ⟨0, by decide, rfl, rfl, fun h => absurd h (by decide), fun h => absurd h (by decide)⟩
        case round =>
          obtain ⟨q, hq, rfl, rfl, hq1, hq2⟩ := hrel
          have hc : q = 0 ∨ q = 1 ∨ q = 2 := by omega
          rcases hc with rfl | rfl | rfl
          · have t0 := (HSV.out W (Below.refl _ _)).2.1
            by_cases hfar : 255 < ft
            · have i1 : (255 : Int) < (ft : Int) := by omega
              have HFR : Hid (255 < ft ∨ 255 < ff) := Lib.hid (.inl hfar)
              gi_wp2
              refine ⟨trivial, (CallsIn.inRound _ (callsIn_wide.2 (HFT.out W (Below.refl _ _)))).mono ?_⟩
              rintro e w' ⟨rfl, hw9⟩
              obtain rfl : W = w' := hw9.symm
              gi_wp2
              refine wpIn_region_E (S := fun V => Below E W V) 17 (by kernel_rfl) (by kernel_rfl) ?_
              have hHeld : Below E W W.drew := (Below.refl _ _).drew
              refine wpAnyE_take (i := 0) (oi := ({ dst := some 55, op := Op.load 29 (Operand.tmp 3), type := 29, pos := "asm.go:67", after := #[], guard := none } : Oper)) (v := ?vf1y0x1) rfl (by kernel_rfl) (by decide) (by kernel_rfl) (fun _ _ _ h => by cases h.1) (by rfl) ?hf1y0x1 hHeld ?rf1y0x1
              case hf1y0x1 =>
                intro V hV
                obtain ⟨s0, s1, s2, s3, s4, s5, s6, s7⟩ := HSV.out V hV
                go_simp
                all_goals with_reducible rfl
              try simp only [Act.put, List.setIfInBounds_toArray, List.set_cons_zero, List.set_cons_succ]
              refine wpAnyE_take (i := 1) (oi := ({ dst := some 56, op := Op.load 78 (Operand.tmp 5), type := 78, pos := "asm.go:67", after := #[], guard := none } : Oper)) (v := ?vf1y1x2) rfl (by kernel_rfl) (by decide) (by kernel_rfl) (fun _ _ _ h => by cases h.1) (by rfl) ?hf1y1x2 hHeld ?rf1y1x2
              case hf1y1x2 =>
                intro V hV
                obtain ⟨s0, s1, s2, s3, s4, s5, s6, s7⟩ := HSV.out V hV
                go_simp
                all_goals with_reducible rfl
              try simp only [Act.put, List.setIfInBounds_toArray, List.set_cons_zero, List.set_cons_succ]
              refine wpAnyE_take (i := 2) (oi := ({ dst := some 57, op := Op.fieldAddr 84 (Operand.tmp 7) 0, type := 0, pos := "asm.go:67", after := #[], guard := none } : Oper)) (v := ?vf1y2x3) rfl (by kernel_rfl) (by decide) (by kernel_rfl) (fun _ _ _ h => by cases h.1) (by rfl) ?hf1y2x3 hHeld ?rf1y2x3
              case hf1y2x3 =>
                intro V hV
                obtain ⟨s0, s1, s2, s3, s4, s5, s6, s7⟩ := HSV.out V hV
                go_simp
                all_goals with_reducible rfl
              try simp only [Act.put, List.setIfInBounds_toArray, List.set_cons_zero, List.set_cons_succ]
              refine wpAnyE_take (i := 3) (oi := ({ dst := some 58, op := Op.fieldAddr 27 (Operand.tmp 57) 4, type := 0, pos := "asm.go:67", after := #[{ on := 2, ground := Ground.data }], guard := none } : Oper)) (v := ?vf1y3x4) rfl (by kernel_rfl) (by decide) (by kernel_rfl) (fun _ _ _ h => by cases h.1) (by rfl) ?hf1y3x4 hHeld ?rf1y3x4
              case hf1y3x4 =>
                intro V hV
                obtain ⟨s0, s1, s2, s3, s4, s5, s6, s7⟩ := HSV.out V hV
                go_simp
                all_goals with_reducible rfl
              try simp only [Act.put, List.setIfInBounds_toArray, List.set_cons_zero, List.set_cons_succ]
              refine wpAnyE_take (i := 4) (oi := ({ dst := some 59, op := Op.load 3 (Operand.tmp 58), type := 3, pos := "asm.go:67", after := #[{ on := 3, ground := Ground.data }], guard := none } : Oper)) (v := ?vf1y4x5) rfl (by kernel_rfl) (by decide) (by kernel_rfl) (fun _ _ _ h => by cases h.1) (by rfl) ?hf1y4x5 hHeld ?rf1y4x5
              case hf1y4x5 =>
                intro V hV
                obtain ⟨s0, s1, s2, s3, s4, s5, s6, s7⟩ := HSV.out V hV
                go_simp
                all_goals with_reducible rfl
              try simp only [Act.put, List.setIfInBounds_toArray, List.set_cons_zero, List.set_cons_succ]
              refine wpAnyE_call (i := 5) (oi := ({ dst := some 60, op := Op.call { callee := Callee.value (Operand.tmp 56), args := #[Operand.tmp 59], argTypes := #[3] }, type := 3, pos := "asm.go:67", after := #[{ on := 1, ground := Ground.data }, { on := 4, ground := Ground.data }], guard := none } : Oper)) (v := .int .i64 (ff : Int)) 31 #[.int .i64 y.f, .pointer (some ⟨B, 0, none⟩), .pointer (some ⟨B + 2, 0, none⟩)] rfl (by kernel_rfl) (by decide) (by kernel_rfl) (fun _ _ _ h => by cases h.1) (by rfl) ?hf1y5x6 ?cf1y5x6 hHeld ?rf1y5x6
              case hf1y5x6 =>
                intro V hV
                go_simp
              case cf1y5x6 => exact fun V hV => HFF.out V hV
              try simp only [Act.put, List.setIfInBounds_toArray, List.set_cons_zero, List.set_cons_succ]
              refine wpAnyE_take (i := 7) (oi := ({ dst := some 62, op := Op.load 78 (Operand.tmp 5), type := 78, pos := "asm.go:67", after := #[], guard := none } : Oper)) (v := ?vf1y7x7) rfl (by kernel_rfl) (by decide) (by kernel_rfl) (fun _ _ _ h => by cases h.1) (by rfl) ?hf1y7x7 hHeld ?rf1y7x7
              case hf1y7x7 =>
                intro V hV
                obtain ⟨s0, s1, s2, s3, s4, s5, s6, s7⟩ := HSV.out V hV
                go_simp
                all_goals with_reducible rfl
              try simp only [Act.put, List.setIfInBounds_toArray, List.set_cons_zero, List.set_cons_succ]
              refine wpAnyE_take (i := 8) (oi := ({ dst := some 63, op := Op.fieldAddr 84 (Operand.tmp 7) 0, type := 0, pos := "asm.go:67", after := #[], guard := none } : Oper)) (v := ?vf1y8x8) rfl (by kernel_rfl) (by decide) (by kernel_rfl) (fun _ _ _ h => by cases h.1) (by rfl) ?hf1y8x8 hHeld ?rf1y8x8
              case hf1y8x8 =>
                intro V hV
                obtain ⟨s0, s1, s2, s3, s4, s5, s6, s7⟩ := HSV.out V hV
                go_simp
                all_goals with_reducible rfl
              try simp only [Act.put, List.setIfInBounds_toArray, List.set_cons_zero, List.set_cons_succ]
              refine wpAnyE_take (i := 9) (oi := ({ dst := some 64, op := Op.fieldAddr 27 (Operand.tmp 63) 3, type := 0, pos := "asm.go:67", after := #[{ on := 8, ground := Ground.data }], guard := none } : Oper)) (v := ?vf1y9x9) rfl (by kernel_rfl) (by decide) (by kernel_rfl) (fun _ _ _ h => by cases h.1) (by rfl) ?hf1y9x9 hHeld ?rf1y9x9
              case hf1y9x9 =>
                intro V hV
                obtain ⟨s0, s1, s2, s3, s4, s5, s6, s7⟩ := HSV.out V hV
                go_simp
                all_goals with_reducible rfl
              try simp only [Act.put, List.setIfInBounds_toArray, List.set_cons_zero, List.set_cons_succ]
              refine wpAnyE_take (i := 10) (oi := ({ dst := some 65, op := Op.load 3 (Operand.tmp 64), type := 3, pos := "asm.go:67", after := #[{ on := 9, ground := Ground.data }], guard := none } : Oper)) (v := ?vf1y10x10) rfl (by kernel_rfl) (by decide) (by kernel_rfl) (fun _ _ _ h => by cases h.1) (by rfl) ?hf1y10x10 hHeld ?rf1y10x10
              case hf1y10x10 =>
                intro V hV
                obtain ⟨s0, s1, s2, s3, s4, s5, s6, s7⟩ := HSV.out V hV
                go_simp
                all_goals with_reducible rfl
              try simp only [Act.put, List.setIfInBounds_toArray, List.set_cons_zero, List.set_cons_succ]
              refine wpAnyE_take (i := 14) (oi := ({ dst := some 69, op := Op.load 84 (Operand.tmp 7), type := 84, pos := "asm.go:67", after := #[], guard := none } : Oper)) (v := ?vf1y14x11) rfl (by kernel_rfl) (by decide) (by kernel_rfl) (fun _ _ _ h => by cases h.1) (by rfl) ?hf1y14x11 hHeld ?rf1y14x11
              case hf1y14x11 =>
                intro V hV
                obtain ⟨s0, s1, s2, s3, s4, s5, s6, s7⟩ := HSV.out V hV
                go_simp
                all_goals with_reducible rfl
              try simp only [Act.put, List.setIfInBounds_toArray, List.set_cons_zero, List.set_cons_succ]
              refine wpAnyE_ready (rs := [6]) (by kernel_rfl) (by simp) ?_
              refine (AllE.cons (o := ({ dst := some 61, op := Op.call { callee := Callee.value (Operand.func 34), args := #[Operand.tmp 60], argTypes := #[3] }, type := 52, pos := "asm.go:67", after := #[{ on := 5, ground := Ground.data }, { on := 5, ground := Ground.chain }], guard := none } : Oper)) rfl (by decide) (fun K hK => ?_) AllE.nil)
              go_simp
              refine (jump_any ff HLF2.out _).mono ?_
              rintro e V1 ⟨rfl, hV1⟩
              have hH1 : Below E W V1 := hHeld.trans (hV1.mono (by rw [← HE.out]; exact hHeld.size))
              refine hK.out _ _ ?kf1y6x12 (fun hHeld2 => ?_)
              case kf1y6x12 => exact hH1
              clear hK K
              try simp only [Act.put, List.setIfInBounds_toArray, List.set_cons_zero, List.set_cons_succ]
              replace hHeld := hHeld2
              clear hHeld2
              clear hV1 hH1
              refine wpAnyE_call (i := 11) (oi := ({ dst := some 66, op := Op.call { callee := Callee.value (Operand.tmp 62), args := #[Operand.tmp 65], argTypes := #[3] }, type := 3, pos := "asm.go:67", after := #[{ on := 7, ground := Ground.data }, { on := 10, ground := Ground.data }, { on := 6, ground := Ground.chain }], guard := none } : Oper)) (v := .int .i64 (ft : Int)) 31 #[.int .i64 y.t, .pointer (some ⟨B, 0, none⟩), .pointer (some ⟨B + 2, 0, none⟩)] rfl (by kernel_rfl) (by decide) (by kernel_rfl) (fun _ _ _ h => by cases h.1) (by rfl) ?hf1y11x13 ?cf1y11x13 hHeld ?rf1y11x13
              case hf1y11x13 =>
                intro V hV
                go_simp
              case cf1y11x13 => exact fun V hV => HFT.out V hV
              try simp only [Act.put, List.setIfInBounds_toArray, List.set_cons_zero, List.set_cons_succ]
              refine wpAnyE_take (i := 12) (oi := ({ dst := some 67, op := Op.binOp BinOp.add 3 (Operand.tmp 66) (Operand.const (Value.int IntKind.i64 1)) 3, type := 3, pos := "asm.go:67", after := #[{ on := 11, ground := Ground.data }], guard := none } : Oper)) (v := .int .i64 ((ft + 1 : Nat) : Int)) rfl (by kernel_rfl) (by decide) (by kernel_rfl) (fun _ _ _ h => by cases h.1) (by rfl) ?hf1y12x14 hHeld ?rf1y12x14
              case hf1y12x14 =>
                intro V hV
                go_simp
                all_goals first | rfl | omega | (rw [HW9.out]; omega)
              try simp only [Act.put, List.setIfInBounds_toArray, List.set_cons_zero, List.set_cons_succ]
              refine wpAnyE_ready (rs := [13]) (by kernel_rfl) (by simp) ?_
              refine (AllE.cons (o := ({ dst := some 68, op := Op.call { callee := Callee.value (Operand.func 34), args := #[Operand.tmp 67], argTypes := #[3] }, type := 52, pos := "asm.go:67", after := #[{ on := 12, ground := Ground.data }, { on := 11, ground := Ground.chain }], guard := none } : Oper)) rfl (by decide) (fun K hK => ?_) AllE.nil)
              go_simp
              refine (jump_any (ft + 1) HLT1.out _).mono ?_
              rintro e V2 ⟨rfl, hV1⟩
              have hH1 : Below E W V2 := hHeld.trans (hV1.mono (by rw [← HE.out]; exact hHeld.size))
              refine hK.out _ _ ?kf1y13x15 (fun hHeld2 => ?_)
              case kf1y13x15 => exact hH1
              clear hK K
              try simp only [Act.put, List.setIfInBounds_toArray, List.set_cons_zero, List.set_cons_succ]
              replace hHeld := hHeld2
              clear hHeld2
              clear hV1 hH1
              refine wpAnyE_ready (rs := [15]) (by kernel_rfl) (by simp) ?_
              refine (AllE.cons (o := ({ dst := some 70, op := Op.call { callee := Callee.value (Operand.func 35), args := #[Operand.tmp 69, Operand.const (Value.int IntKind.i64 0), Operand.const (Value.int IntKind.i64 1)], argTypes := #[84, 3, 3] }, type := 52, pos := "asm.go:67", after := #[{ on := 14, ground := Ground.data }, { on := 13, ground := Ground.chain }], guard := none } : Oper)) rfl (by decide) (fun K hK => ?_) AllE.nil)
              go_simp
              refine (HWI.out 0 1 (by decide) (by decide) _).mono ?_
              rintro e V3 ⟨rfl, hV1⟩
              have hH1 : Below E W V3 := hHeld.trans (hV1.mono (by rw [← HE.out]; exact hHeld.size))
              refine hK.out _ _ ?kf1y15x16 (fun hHeld2 => ?_)
              case kf1y15x16 => exact hH1
              clear hK K
              try simp only [Act.put, List.setIfInBounds_toArray, List.set_cons_zero, List.set_cons_succ]
              replace hHeld := hHeld2
              clear hHeld2
              clear hV1 hH1
              refine wpAnyE_ready (rs := [16]) (by kernel_rfl) (by simp) ?_
              refine (AllE.cons (o := ({ dst := some 71, op := Op.buildSlice 29 3 #[(0, Operand.tmp 61), (1, Operand.tmp 68), (2, Operand.tmp 70)], type := 29, pos := "asm.go:67", after := #[{ on := 6, ground := Ground.data }, { on := 13, ground := Ground.data }, { on := 15, ground := Ground.data }], guard := none } : Oper)) rfl (by decide) (fun K hK => ?_) AllE.nil)
              go_simp
              refine hK.out _ _ ?kf1y16x17 (fun hHeld2 => ?_)
              case kf1y16x17 => exact hHeld.alloc (by rw [← HE.out]; exact hHeld.size) _
              clear hK K
              try simp only [Act.put, List.setIfInBounds_toArray, List.set_cons_zero, List.set_cons_succ]
              replace hHeld := hHeld2
              clear hHeld2
              refine wpAnyE_late (j := 17) (o := ({ dst := some 72, op := Op.call { callee := Callee.builtin Builtin.append, args := #[Operand.tmp 55, Operand.tmp 71], argTypes := #[29, 29] }, type := 29, pos := "asm.go:67", after := #[{ on := 0, ground := Ground.data }, { on := 16, ground := Ground.data }, { on := 15, ground := Ground.chain }], guard := none } : Oper)) (by kernel_rfl) (by decide) rfl (fun K hK => ?_)
              refine step_cellsG (by rfl) _ _ _ 52 (by rfl) Try.underlying29 infoI (by rfl) (by decide) (by rfl) (HOB.out _ hHeld) (by rfl) (ins3 V3 ⟨5, 0, 0, ff⟩ ⟨5, 0, 0, ft + 1⟩ ⟨y.c, 0, 1, y.k⟩ _) (fun i _ => icell_one _ i) (by unfold maxLen; have := HPL.out; omega) (by have := HPL.out; omega) (by have := hHeld.size; omega) (st.1.length + 3) rfl (icell fun i => (st.1 ++ [(⟨5, 0, 0, ff⟩ : IV), ⟨5, 0, 0, ft + 1⟩, ⟨y.c, 0, 1, y.k⟩])[i]!) (fun i hi => icell_app st.1 [(⟨5, 0, 0, ff⟩ : IV), ⟨5, 0, 0, ft + 1⟩, ⟨y.c, 0, 1, y.k⟩] i (by simpa using hi)) ?_
              rintro A8 c8 W8 hO8 hg8
              have HM8 := HI.out.more (st' := (st.1 ++ [(⟨5, 0, 0, ff⟩ : IV), ⟨5, 0, 0, ft + 1⟩, ⟨y.c, 0, 1, y.k⟩], st.2)) (by omega) (W7 := _) (by rw [HE.out]; exact hHeld) A' c' HA.out HO.out hg8 hO8 (by simp) rfl
              have s8 := HM8.1.cell 0 _ rfl
              have s9 := HM8.1.frozen 0
              refine hK.out _ _ ?_
              clear hK K
              try simp only [Act.put, List.setIfInBounds_toArray, List.set_cons_zero, List.set_cons_succ]
              refine wpAnyE_late (j := 18) (o := ({ dst := none, op := Op.store 29 (Operand.tmp 3) (Operand.tmp 72), type := 0, pos := "asm.go:67", after := #[{ on := 17, ground := Ground.data }, { on := 17, ground := Ground.chain }, { on := 0, ground := Ground.phase }, { on := 1, ground := Ground.phase }, { on := 2, ground := Ground.phase }, { on := 3, ground := Ground.phase }, { on := 4, ground := Ground.phase }, { on := 5, ground := Ground.phase }, { on := 6, ground := Ground.phase }, { on := 7, ground := Ground.phase }, { on := 8, ground := Ground.phase }, { on := 9, ground := Ground.phase }, { on := 10, ground := Ground.phase }, { on := 11, ground := Ground.phase }, { on := 12, ground := Ground.phase }, { on := 13, ground := Ground.phase }, { on := 14, ground := Ground.phase }, { on := 15, ground := Ground.phase }, { on := 16, ground := Ground.phase }, { on := 17, ground := Ground.phase }], guard := none } : Oper)) (by kernel_rfl) (by decide) rfl (fun K hK => ?_)
              go_simp
              refine hK.out _ _ ?_
              clear hK K
              try simp only [Act.put, List.setIfInBounds_toArray, List.set_cons_zero, List.set_cons_succ]
              refine wpAnyE_done (by kernel_rfl) ?_ _
              refine ⟨rfl, ?_⟩
              have HQ : Hid (pStep st y = (st.1 ++ [(⟨5, 0, 0, ff⟩ : IV), ⟨5, 0, 0, ft + 1⟩, ⟨y.c, 0, 1, y.k⟩], st.2)) := Lib.hid (by unfold pStep; rw [if_neg (fun h => h HM0.out), if_neg HK13.out, HFE.out.1, HFE.out.2, if_pos HFR.out])
              clear HSV HFT HFF HFQ HOB HPL
              gi_wp2
              refine ⟨by rw [hs3]; exact HM8.2.2.1, ⟨HM8.2.2.2.1 S2 (by rw [HE.out]; omega) (by omega) (by omega), HM8.2.2.2.1 pb (by rw [HE.out]; omega) (by omega) (by omega)⟩, ?_, hB.trans HM8.2.2.2.2, Nat.le_trans hWlo HM8.2.2.2.2.size⟩
              rw [HX.out, HQ.out, List.length_append, HNN.out]
              exact HM8.2.1
            · have i1 : ¬ (255 : Int) < (ft : Int) := by omega
              gi_wp2
              refine ⟨trivial, (CallsIn.inRound _ (callsIn_wide.2 (HFT.out W (Below.refl _ _)))).mono ?_⟩
              rintro e w' ⟨rfl, hw9⟩
              obtain rfl : W = w' := hw9.symm
              gi_wp2
              exact ⟨⟨1, by decide, rfl, by trivial, fun _ => by omega, fun h => absurd h (by decide)⟩, by decide⟩
          · have t0 := (HSV.out W (Below.refl _ _)).2.1
            by_cases hfar : 255 < ff
            · have i1 : (255 : Int) < (ff : Int) := by omega
              have HFR : Hid (255 < ft ∨ 255 < ff) := Lib.hid (.inr hfar)
              gi_wp2
              refine ⟨trivial, (CallsIn.inRound _ (callsIn_wide.2 (HFF.out W (Below.refl _ _)))).mono ?_⟩
              rintro e w' ⟨rfl, hw9⟩
              obtain rfl : W = w' := hw9.symm
              gi_wp2
              refine wpIn_region_E (S := fun V => Below E W V) 17 (by kernel_rfl) (by kernel_rfl) ?_
              have hHeld : Below E W W.drew := (Below.refl _ _).drew
              refine wpAnyE_take (i := 0) (oi := ({ dst := some 55, op := Op.load 29 (Operand.tmp 3), type := 29, pos := "asm.go:67", after := #[], guard := none } : Oper)) (v := ?vf2y0x1) rfl (by kernel_rfl) (by decide) (by kernel_rfl) (fun _ _ _ h => by cases h.1) (by rfl) ?hf2y0x1 hHeld ?rf2y0x1
              case hf2y0x1 =>
                intro V hV
                obtain ⟨s0, s1, s2, s3, s4, s5, s6, s7⟩ := HSV.out V hV
                go_simp
                all_goals with_reducible rfl
              try simp only [Act.put, List.setIfInBounds_toArray, List.set_cons_zero, List.set_cons_succ]
              refine wpAnyE_take (i := 1) (oi := ({ dst := some 56, op := Op.load 78 (Operand.tmp 5), type := 78, pos := "asm.go:67", after := #[], guard := none } : Oper)) (v := ?vf2y1x2) rfl (by kernel_rfl) (by decide) (by kernel_rfl) (fun _ _ _ h => by cases h.1) (by rfl) ?hf2y1x2 hHeld ?rf2y1x2
              case hf2y1x2 =>
                intro V hV
                obtain ⟨s0, s1, s2, s3, s4, s5, s6, s7⟩ := HSV.out V hV
                go_simp
                all_goals with_reducible rfl
              try simp only [Act.put, List.setIfInBounds_toArray, List.set_cons_zero, List.set_cons_succ]
              refine wpAnyE_take (i := 2) (oi := ({ dst := some 57, op := Op.fieldAddr 84 (Operand.tmp 7) 0, type := 0, pos := "asm.go:67", after := #[], guard := none } : Oper)) (v := ?vf2y2x3) rfl (by kernel_rfl) (by decide) (by kernel_rfl) (fun _ _ _ h => by cases h.1) (by rfl) ?hf2y2x3 hHeld ?rf2y2x3
              case hf2y2x3 =>
                intro V hV
                obtain ⟨s0, s1, s2, s3, s4, s5, s6, s7⟩ := HSV.out V hV
                go_simp
                all_goals with_reducible rfl
              try simp only [Act.put, List.setIfInBounds_toArray, List.set_cons_zero, List.set_cons_succ]
              refine wpAnyE_take (i := 3) (oi := ({ dst := some 58, op := Op.fieldAddr 27 (Operand.tmp 57) 4, type := 0, pos := "asm.go:67", after := #[{ on := 2, ground := Ground.data }], guard := none } : Oper)) (v := ?vf2y3x4) rfl (by kernel_rfl) (by decide) (by kernel_rfl) (fun _ _ _ h => by cases h.1) (by rfl) ?hf2y3x4 hHeld ?rf2y3x4
              case hf2y3x4 =>
                intro V hV
                obtain ⟨s0, s1, s2, s3, s4, s5, s6, s7⟩ := HSV.out V hV
                go_simp
                all_goals with_reducible rfl
              try simp only [Act.put, List.setIfInBounds_toArray, List.set_cons_zero, List.set_cons_succ]
              refine wpAnyE_take (i := 4) (oi := ({ dst := some 59, op := Op.load 3 (Operand.tmp 58), type := 3, pos := "asm.go:67", after := #[{ on := 3, ground := Ground.data }], guard := none } : Oper)) (v := ?vf2y4x5) rfl (by kernel_rfl) (by decide) (by kernel_rfl) (fun _ _ _ h => by cases h.1) (by rfl) ?hf2y4x5 hHeld ?rf2y4x5
              case hf2y4x5 =>
                intro V hV
                obtain ⟨s0, s1, s2, s3, s4, s5, s6, s7⟩ := HSV.out V hV
                go_simp
                all_goals with_reducible rfl
              try simp only [Act.put, List.setIfInBounds_toArray, List.set_cons_zero, List.set_cons_succ]
              refine wpAnyE_call (i := 5) (oi := ({ dst := some 60, op := Op.call { callee := Callee.value (Operand.tmp 56), args := #[Operand.tmp 59], argTypes := #[3] }, type := 3, pos := "asm.go:67", after := #[{ on := 1, ground := Ground.data }, { on := 4, ground := Ground.data }], guard := none } : Oper)) (v := .int .i64 (ff : Int)) 31 #[.int .i64 y.f, .pointer (some ⟨B, 0, none⟩), .pointer (some ⟨B + 2, 0, none⟩)] rfl (by kernel_rfl) (by decide) (by kernel_rfl) (fun _ _ _ h => by cases h.1) (by rfl) ?hf2y5x6 ?cf2y5x6 hHeld ?rf2y5x6
              case hf2y5x6 =>
                intro V hV
                go_simp
              case cf2y5x6 => exact fun V hV => HFF.out V hV
              try simp only [Act.put, List.setIfInBounds_toArray, List.set_cons_zero, List.set_cons_succ]
              refine wpAnyE_take (i := 7) (oi := ({ dst := some 62, op := Op.load 78 (Operand.tmp 5), type := 78, pos := "asm.go:67", after := #[], guard := none } : Oper)) (v := ?vf2y7x7) rfl (by kernel_rfl) (by decide) (by kernel_rfl) (fun _ _ _ h => by cases h.1) (by rfl) ?hf2y7x7 hHeld ?rf2y7x7
              case hf2y7x7 =>
                intro V hV
                obtain ⟨s0, s1, s2, s3, s4, s5, s6, s7⟩ := HSV.out V hV
                go_simp
                all_goals with_reducible rfl
              try simp only [Act.put, List.setIfInBounds_toArray, List.set_cons_zero, List.set_cons_succ]
              refine wpAnyE_take (i := 8) (oi := ({ dst := some 63, op := Op.fieldAddr 84 (Operand.tmp 7) 0, type := 0, pos := "asm.go:67", after := #[], guard := none } : Oper)) (v := ?vf2y8x8) rfl (by kernel_rfl) (by decide) (by kernel_rfl) (fun _ _ _ h => by cases h.1) (by rfl) ?hf2y8x8 hHeld ?rf2y8x8
              case hf2y8x8 =>
                intro V hV
                obtain ⟨s0, s1, s2, s3, s4, s5, s6, s7⟩ := HSV.out V hV
                go_simp
                all_goals with_reducible rfl
              try simp only [Act.put, List.setIfInBounds_toArray, List.set_cons_zero, List.set_cons_succ]
              refine wpAnyE_take (i := 9) (oi := ({ dst := some 64, op := Op.fieldAddr 27 (Operand.tmp 63) 3, type := 0, pos := "asm.go:67", after := #[{ on := 8, ground := Ground.data }], guard := none } : Oper)) (v := ?vf2y9x9) rfl (by kernel_rfl) (by decide) (by kernel_rfl) (fun _ _ _ h => by cases h.1) (by rfl) ?hf2y9x9 hHeld ?rf2y9x9
              case hf2y9x9 =>
                intro V hV
                obtain ⟨s0, s1, s2, s3, s4, s5, s6, s7⟩ := HSV.out V hV
                go_simp
                all_goals with_reducible rfl
              try simp only [Act.put, List.setIfInBounds_toArray, List.set_cons_zero, List.set_cons_succ]
              refine wpAnyE_take (i := 10) (oi := ({ dst := some 65, op := Op.load 3 (Operand.tmp 64), type := 3, pos := "asm.go:67", after := #[{ on := 9, ground := Ground.data }], guard := none } : Oper)) (v := ?vf2y10x10) rfl (by kernel_rfl) (by decide) (by kernel_rfl) (fun _ _ _ h => by cases h.1) (by rfl) ?hf2y10x10 hHeld ?rf2y10x10
              case hf2y10x10 =>
                intro V hV
                obtain ⟨s0, s1, s2, s3, s4, s5, s6, s7⟩ := HSV.out V hV
                go_simp
                all_goals with_reducible rfl
              try simp only [Act.put, List.setIfInBounds_toArray, List.set_cons_zero, List.set_cons_succ]
              refine wpAnyE_take (i := 14) (oi := ({ dst := some 69, op := Op.load 84 (Operand.tmp 7), type := 84, pos := "asm.go:67", after := #[], guard := none } : Oper)) (v := ?vf2y14x11) rfl (by kernel_rfl) (by decide) (by kernel_rfl) (fun _ _ _ h => by cases h.1) (by rfl) ?hf2y14x11 hHeld ?rf2y14x11
              case hf2y14x11 =>
                intro V hV
                obtain ⟨s0, s1, s2, s3, s4, s5, s6, s7⟩ := HSV.out V hV
                go_simp
                all_goals with_reducible rfl
              try simp only [Act.put, List.setIfInBounds_toArray, List.set_cons_zero, List.set_cons_succ]
              refine wpAnyE_ready (rs := [6]) (by kernel_rfl) (by simp) ?_
              refine (AllE.cons (o := ({ dst := some 61, op := Op.call { callee := Callee.value (Operand.func 34), args := #[Operand.tmp 60], argTypes := #[3] }, type := 52, pos := "asm.go:67", after := #[{ on := 5, ground := Ground.data }, { on := 5, ground := Ground.chain }], guard := none } : Oper)) rfl (by decide) (fun K hK => ?_) AllE.nil)
              go_simp
              refine (jump_any ff HLF2.out _).mono ?_
              rintro e V1 ⟨rfl, hV1⟩
              have hH1 : Below E W V1 := hHeld.trans (hV1.mono (by rw [← HE.out]; exact hHeld.size))
              refine hK.out _ _ ?kf2y6x12 (fun hHeld2 => ?_)
              case kf2y6x12 => exact hH1
              clear hK K
              try simp only [Act.put, List.setIfInBounds_toArray, List.set_cons_zero, List.set_cons_succ]
              replace hHeld := hHeld2
              clear hHeld2
              clear hV1 hH1
              refine wpAnyE_call (i := 11) (oi := ({ dst := some 66, op := Op.call { callee := Callee.value (Operand.tmp 62), args := #[Operand.tmp 65], argTypes := #[3] }, type := 3, pos := "asm.go:67", after := #[{ on := 7, ground := Ground.data }, { on := 10, ground := Ground.data }, { on := 6, ground := Ground.chain }], guard := none } : Oper)) (v := .int .i64 (ft : Int)) 31 #[.int .i64 y.t, .pointer (some ⟨B, 0, none⟩), .pointer (some ⟨B + 2, 0, none⟩)] rfl (by kernel_rfl) (by decide) (by kernel_rfl) (fun _ _ _ h => by cases h.1) (by rfl) ?hf2y11x13 ?cf2y11x13 hHeld ?rf2y11x13
              case hf2y11x13 =>
                intro V hV
                go_simp
              case cf2y11x13 => exact fun V hV => HFT.out V hV
              try simp only [Act.put, List.setIfInBounds_toArray, List.set_cons_zero, List.set_cons_succ]
              refine wpAnyE_take (i := 12) (oi := ({ dst := some 67, op := Op.binOp BinOp.add 3 (Operand.tmp 66) (Operand.const (Value.int IntKind.i64 1)) 3, type := 3, pos := "asm.go:67", after := #[{ on := 11, ground := Ground.data }], guard := none } : Oper)) (v := .int .i64 ((ft + 1 : Nat) : Int)) rfl (by kernel_rfl) (by decide) (by kernel_rfl) (fun _ _ _ h => by cases h.1) (by rfl) ?hf2y12x14 hHeld ?rf2y12x14
              case hf2y12x14 =>
                intro V hV
                go_simp
                all_goals first | rfl | omega | (rw [HW9.out]; omega)
              try simp only [Act.put, List.setIfInBounds_toArray, List.set_cons_zero, List.set_cons_succ]
              refine wpAnyE_ready (rs := [13]) (by kernel_rfl) (by simp) ?_
              refine (AllE.cons (o := ({ dst := some 68, op := Op.call { callee := Callee.value (Operand.func 34), args := #[Operand.tmp 67], argTypes := #[3] }, type := 52, pos := "asm.go:67", after := #[{ on := 12, ground := Ground.data }, { on := 11, ground := Ground.chain }], guard := none } : Oper)) rfl (by decide) (fun K hK => ?_) AllE.nil)
              go_simp
              refine (jump_any (ft + 1) HLT1.out _).mono ?_
              rintro e V2 ⟨rfl, hV1⟩
              have hH1 : Below E W V2 := hHeld.trans (hV1.mono (by rw [← HE.out]; exact hHeld.size))
              refine hK.out _ _ ?kf2y13x15 (fun hHeld2 => ?_)
              case kf2y13x15 => exact hH1
              clear hK K
              try simp only [Act.put, List.setIfInBounds_toArray, List.set_cons_zero, List.set_cons_succ]
              replace hHeld := hHeld2
              clear hHeld2
              clear hV1 hH1
              refine wpAnyE_ready (rs := [15]) (by kernel_rfl) (by simp) ?_
              refine (AllE.cons (o := ({ dst := some 70, op := Op.call { callee := Callee.value (Operand.func 35), args := #[Operand.tmp 69, Operand.const (Value.int IntKind.i64 0), Operand.const (Value.int IntKind.i64 1)], argTypes := #[84, 3, 3] }, type := 52, pos := "asm.go:67", after := #[{ on := 14, ground := Ground.data }, { on := 13, ground := Ground.chain }], guard := none } : Oper)) rfl (by decide) (fun K hK => ?_) AllE.nil)
              go_simp
              refine (HWI.out 0 1 (by decide) (by decide) _).mono ?_
              rintro e V3 ⟨rfl, hV1⟩
              have hH1 : Below E W V3 := hHeld.trans (hV1.mono (by rw [← HE.out]; exact hHeld.size))
              refine hK.out _ _ ?kf2y15x16 (fun hHeld2 => ?_)
              case kf2y15x16 => exact hH1
              clear hK K
              try simp only [Act.put, List.setIfInBounds_toArray, List.set_cons_zero, List.set_cons_succ]
              replace hHeld := hHeld2
              clear hHeld2
              clear hV1 hH1
              refine wpAnyE_ready (rs := [16]) (by kernel_rfl) (by simp) ?_
              refine (AllE.cons (o := ({ dst := some 71, op := Op.buildSlice 29 3 #[(0, Operand.tmp 61), (1, Operand.tmp 68), (2, Operand.tmp 70)], type := 29, pos := "asm.go:67", after := #[{ on := 6, ground := Ground.data }, { on := 13, ground := Ground.data }, { on := 15, ground := Ground.data }], guard := none } : Oper)) rfl (by decide) (fun K hK => ?_) AllE.nil)
              go_simp
              refine hK.out _ _ ?kf2y16x17 (fun hHeld2 => ?_)
              case kf2y16x17 => exact hHeld.alloc (by rw [← HE.out]; exact hHeld.size) _
              clear hK K
              try simp only [Act.put, List.setIfInBounds_toArray, List.set_cons_zero, List.set_cons_succ]
              replace hHeld := hHeld2
              clear hHeld2
              refine wpAnyE_late (j := 17) (o := ({ dst := some 72, op := Op.call { callee := Callee.builtin Builtin.append, args := #[Operand.tmp 55, Operand.tmp 71], argTypes := #[29, 29] }, type := 29, pos := "asm.go:67", after := #[{ on := 0, ground := Ground.data }, { on := 16, ground := Ground.data }, { on := 15, ground := Ground.chain }], guard := none } : Oper)) (by kernel_rfl) (by decide) rfl (fun K hK => ?_)
              refine step_cellsG (by rfl) _ _ _ 52 (by rfl) Try.underlying29 infoI (by rfl) (by decide) (by rfl) (HOB.out _ hHeld) (by rfl) (ins3 V3 ⟨5, 0, 0, ff⟩ ⟨5, 0, 0, ft + 1⟩ ⟨y.c, 0, 1, y.k⟩ _) (fun i _ => icell_one _ i) (by unfold maxLen; have := HPL.out; omega) (by have := HPL.out; omega) (by have := hHeld.size; omega) (st.1.length + 3) rfl (icell fun i => (st.1 ++ [(⟨5, 0, 0, ff⟩ : IV), ⟨5, 0, 0, ft + 1⟩, ⟨y.c, 0, 1, y.k⟩])[i]!) (fun i hi => icell_app st.1 [(⟨5, 0, 0, ff⟩ : IV), ⟨5, 0, 0, ft + 1⟩, ⟨y.c, 0, 1, y.k⟩] i (by simpa using hi)) ?_
              rintro A8 c8 W8 hO8 hg8
              have HM8 := HI.out.more (st' := (st.1 ++ [(⟨5, 0, 0, ff⟩ : IV), ⟨5, 0, 0, ft + 1⟩, ⟨y.c, 0, 1, y.k⟩], st.2)) (by omega) (W7 := _) (by rw [HE.out]; exact hHeld) A' c' HA.out HO.out hg8 hO8 (by simp) rfl
              have s8 := HM8.1.cell 0 _ rfl
              have s9 := HM8.1.frozen 0
              refine hK.out _ _ ?_
              clear hK K
              try simp only [Act.put, List.setIfInBounds_toArray, List.set_cons_zero, List.set_cons_succ]
              refine wpAnyE_late (j := 18) (o := ({ dst := none, op := Op.store 29 (Operand.tmp 3) (Operand.tmp 72), type := 0, pos := "asm.go:67", after := #[{ on := 17, ground := Ground.data }, { on := 17, ground := Ground.chain }, { on := 0, ground := Ground.phase }, { on := 1, ground := Ground.phase }, { on := 2, ground := Ground.phase }, { on := 3, ground := Ground.phase }, { on := 4, ground := Ground.phase }, { on := 5, ground := Ground.phase }, { on := 6, ground := Ground.phase }, { on := 7, ground := Ground.phase }, { on := 8, ground := Ground.phase }, { on := 9, ground := Ground.phase }, { on := 10, ground := Ground.phase }, { on := 11, ground := Ground.phase }, { on := 12, ground := Ground.phase }, { on := 13, ground := Ground.phase }, { on := 14, ground := Ground.phase }, { on := 15, ground := Ground.phase }, { on := 16, ground := Ground.phase }, { on := 17, ground := Ground.phase }], guard := none } : Oper)) (by kernel_rfl) (by decide) rfl (fun K hK => ?_)
              go_simp
              refine hK.out _ _ ?_
              clear hK K
              try simp only [Act.put, List.setIfInBounds_toArray, List.set_cons_zero, List.set_cons_succ]
              refine wpAnyE_done (by kernel_rfl) ?_ _
              refine ⟨rfl, ?_⟩
              have HQ : Hid (pStep st y = (st.1 ++ [(⟨5, 0, 0, ff⟩ : IV), ⟨5, 0, 0, ft + 1⟩, ⟨y.c, 0, 1, y.k⟩], st.2)) := Lib.hid (by unfold pStep; rw [if_neg (fun h => h HM0.out), if_neg HK13.out, HFE.out.1, HFE.out.2, if_pos HFR.out])
              clear HSV HFT HFF HFQ HOB HPL
              gi_wp2
              refine ⟨by rw [hs3]; exact HM8.2.2.1, ⟨HM8.2.2.2.1 S2 (by rw [HE.out]; omega) (by omega) (by omega), HM8.2.2.2.1 pb (by rw [HE.out]; omega) (by omega) (by omega)⟩, ?_, hB.trans HM8.2.2.2.2, Nat.le_trans hWlo HM8.2.2.2.2.size⟩
              rw [HX.out, HQ.out, List.length_append, HNN.out]
              exact HM8.2.1
            · have i1 : ¬ (255 : Int) < (ff : Int) := by omega
              gi_wp2
              refine ⟨trivial, (CallsIn.inRound _ (callsIn_wide.2 (HFF.out W (Below.refl _ _)))).mono ?_⟩
              rintro e w' ⟨rfl, hw9⟩
              obtain rfl : W = w' := hw9.symm
              gi_wp2
              exact ⟨⟨2, by decide, rfl, by trivial, fun _ => hq1 (by decide), fun _ => by omega⟩, by decide⟩
          · have HFN : Hid (¬ (255 < ft ∨ 255 < ff)) := Lib.hid (by have := hq1 (by decide); have := hq2 (by decide); omega)
            have hbt : ft < 256 := by have := hq1 (by decide); omega
            have hbf : ff < 256 := by have := hq2 (by decide); omega
            gi_wp2
            refine wpIn_region_E (S := fun V => Below E W V) 14 (by kernel_rfl) (by kernel_rfl) ?_
            have hHeld : Below E W W.drew := (Below.refl _ _).drew
            refine wpAnyE_take (i := 0) (oi := ({ dst := some 74, op := Op.load 29 (Operand.tmp 3), type := 29, pos := "asm.go:71", after := #[], guard := none } : Oper)) (v := ?vl0x1) rfl (by kernel_rfl) (by decide) (by kernel_rfl) (fun _ _ _ h => by cases h.1) (by rfl) ?hl0x1 hHeld ?rl0x1
            case hl0x1 =>
              intro V hV
              obtain ⟨s0, s1, s2, s3, s4, s5, s6, s7⟩ := HSV.out V hV
              go_simp
              all_goals with_reducible rfl
            try simp only [Act.put, List.setIfInBounds_toArray, List.set_cons_zero, List.set_cons_succ]
            refine wpAnyE_take (i := 1) (oi := ({ dst := some 75, op := Op.load 84 (Operand.tmp 7), type := 84, pos := "asm.go:71", after := #[], guard := none } : Oper)) (v := ?vl1x2) rfl (by kernel_rfl) (by decide) (by kernel_rfl) (fun _ _ _ h => by cases h.1) (by rfl) ?hl1x2 hHeld ?rl1x2
            case hl1x2 =>
              intro V hV
              obtain ⟨s0, s1, s2, s3, s4, s5, s6, s7⟩ := HSV.out V hV
              go_simp
              all_goals with_reducible rfl
            try simp only [Act.put, List.setIfInBounds_toArray, List.set_cons_zero, List.set_cons_succ]
            refine wpAnyE_take (i := 2) (oi := ({ dst := some 76, op := Op.load 78 (Operand.tmp 5), type := 78, pos := "asm.go:71", after := #[], guard := none } : Oper)) (v := ?vl2x3) rfl (by kernel_rfl) (by decide) (by kernel_rfl) (fun _ _ _ h => by cases h.1) (by rfl) ?hl2x3 hHeld ?rl2x3
            case hl2x3 =>
              intro V hV
              obtain ⟨s0, s1, s2, s3, s4, s5, s6, s7⟩ := HSV.out V hV
              go_simp
              all_goals with_reducible rfl
            try simp only [Act.put, List.setIfInBounds_toArray, List.set_cons_zero, List.set_cons_succ]
            refine wpAnyE_take (i := 3) (oi := ({ dst := some 77, op := Op.fieldAddr 84 (Operand.tmp 7) 0, type := 0, pos := "asm.go:71", after := #[], guard := none } : Oper)) (v := ?vl3x4) rfl (by kernel_rfl) (by decide) (by kernel_rfl) (fun _ _ _ h => by cases h.1) (by rfl) ?hl3x4 hHeld ?rl3x4
            case hl3x4 =>
              intro V hV
              obtain ⟨s0, s1, s2, s3, s4, s5, s6, s7⟩ := HSV.out V hV
              go_simp
              all_goals with_reducible rfl
            try simp only [Act.put, List.setIfInBounds_toArray, List.set_cons_zero, List.set_cons_succ]
            refine wpAnyE_take (i := 4) (oi := ({ dst := some 78, op := Op.fieldAddr 27 (Operand.tmp 77) 3, type := 0, pos := "asm.go:71", after := #[{ on := 3, ground := Ground.data }], guard := none } : Oper)) (v := ?vl4x5) rfl (by kernel_rfl) (by decide) (by kernel_rfl) (fun _ _ _ h => by cases h.1) (by rfl) ?hl4x5 hHeld ?rl4x5
            case hl4x5 =>
              intro V hV
              obtain ⟨s0, s1, s2, s3, s4, s5, s6, s7⟩ := HSV.out V hV
              go_simp
              all_goals with_reducible rfl
            try simp only [Act.put, List.setIfInBounds_toArray, List.set_cons_zero, List.set_cons_succ]
            refine wpAnyE_take (i := 5) (oi := ({ dst := some 79, op := Op.load 3 (Operand.tmp 78), type := 3, pos := "asm.go:71", after := #[{ on := 4, ground := Ground.data }], guard := none } : Oper)) (v := ?vl5x6) rfl (by kernel_rfl) (by decide) (by kernel_rfl) (fun _ _ _ h => by cases h.1) (by rfl) ?hl5x6 hHeld ?rl5x6
            case hl5x6 =>
              intro V hV
              obtain ⟨s0, s1, s2, s3, s4, s5, s6, s7⟩ := HSV.out V hV
              go_simp
              all_goals with_reducible rfl
            try simp only [Act.put, List.setIfInBounds_toArray, List.set_cons_zero, List.set_cons_succ]
            refine wpAnyE_call (i := 6) (oi := ({ dst := some 80, op := Op.call { callee := Callee.value (Operand.tmp 76), args := #[Operand.tmp 79], argTypes := #[3] }, type := 3, pos := "asm.go:71", after := #[{ on := 2, ground := Ground.data }, { on := 5, ground := Ground.data }], guard := none } : Oper)) (v := .int .i64 (ft : Int)) 31 #[.int .i64 y.t, .pointer (some ⟨B, 0, none⟩), .pointer (some ⟨B + 2, 0, none⟩)] rfl (by kernel_rfl) (by decide) (by kernel_rfl) (fun _ _ _ h => by cases h.1) (by rfl) ?hl6x7 ?cl6x7 hHeld ?rl6x7
            case hl6x7 =>
              intro V hV
              go_simp
            case cl6x7 => exact fun V hV => HFT.out V hV
            try simp only [Act.put, List.setIfInBounds_toArray, List.set_cons_zero, List.set_cons_succ]
            refine wpAnyE_take (i := 7) (oi := ({ dst := some 81, op := Op.load 78 (Operand.tmp 5), type := 78, pos := "asm.go:71", after := #[], guard := none } : Oper)) (v := ?vl7x8) rfl (by kernel_rfl) (by decide) (by kernel_rfl) (fun _ _ _ h => by cases h.1) (by rfl) ?hl7x8 hHeld ?rl7x8
            case hl7x8 =>
              intro V hV
              obtain ⟨s0, s1, s2, s3, s4, s5, s6, s7⟩ := HSV.out V hV
              go_simp
              all_goals with_reducible rfl
            try simp only [Act.put, List.setIfInBounds_toArray, List.set_cons_zero, List.set_cons_succ]
            refine wpAnyE_take (i := 8) (oi := ({ dst := some 82, op := Op.fieldAddr 84 (Operand.tmp 7) 0, type := 0, pos := "asm.go:71", after := #[], guard := none } : Oper)) (v := ?vl8x9) rfl (by kernel_rfl) (by decide) (by kernel_rfl) (fun _ _ _ h => by cases h.1) (by rfl) ?hl8x9 hHeld ?rl8x9
            case hl8x9 =>
              intro V hV
              obtain ⟨s0, s1, s2, s3, s4, s5, s6, s7⟩ := HSV.out V hV
              go_simp
              all_goals with_reducible rfl
            try simp only [Act.put, List.setIfInBounds_toArray, List.set_cons_zero, List.set_cons_succ]
            refine wpAnyE_take (i := 9) (oi := ({ dst := some 83, op := Op.fieldAddr 27 (Operand.tmp 82) 4, type := 0, pos := "asm.go:71", after := #[{ on := 8, ground := Ground.data }], guard := none } : Oper)) (v := ?vl9x10) rfl (by kernel_rfl) (by decide) (by kernel_rfl) (fun _ _ _ h => by cases h.1) (by rfl) ?hl9x10 hHeld ?rl9x10
            case hl9x10 =>
              intro V hV
              obtain ⟨s0, s1, s2, s3, s4, s5, s6, s7⟩ := HSV.out V hV
              go_simp
              all_goals with_reducible rfl
            try simp only [Act.put, List.setIfInBounds_toArray, List.set_cons_zero, List.set_cons_succ]
            refine wpAnyE_take (i := 10) (oi := ({ dst := some 84, op := Op.load 3 (Operand.tmp 83), type := 3, pos := "asm.go:71", after := #[{ on := 9, ground := Ground.data }], guard := none } : Oper)) (v := ?vl10x11) rfl (by kernel_rfl) (by decide) (by kernel_rfl) (fun _ _ _ h => by cases h.1) (by rfl) ?hl10x11 hHeld ?rl10x11
            case hl10x11 =>
              intro V hV
              obtain ⟨s0, s1, s2, s3, s4, s5, s6, s7⟩ := HSV.out V hV
              go_simp
              all_goals with_reducible rfl
            try simp only [Act.put, List.setIfInBounds_toArray, List.set_cons_zero, List.set_cons_succ]
            refine wpAnyE_call (i := 11) (oi := ({ dst := some 85, op := Op.call { callee := Callee.value (Operand.tmp 81), args := #[Operand.tmp 84], argTypes := #[3] }, type := 3, pos := "asm.go:71", after := #[{ on := 7, ground := Ground.data }, { on := 10, ground := Ground.data }, { on := 6, ground := Ground.chain }], guard := none } : Oper)) (v := .int .i64 (ff : Int)) 31 #[.int .i64 y.f, .pointer (some ⟨B, 0, none⟩), .pointer (some ⟨B + 2, 0, none⟩)] rfl (by kernel_rfl) (by decide) (by kernel_rfl) (fun _ _ _ h => by cases h.1) (by rfl) ?hl11x12 ?cl11x12 hHeld ?rl11x12
            case hl11x12 =>
              intro V hV
              go_simp
            case cl11x12 => exact fun V hV => HFF.out V hV
            try simp only [Act.put, List.setIfInBounds_toArray, List.set_cons_zero, List.set_cons_succ]
            refine wpAnyE_ready (rs := [12]) (by kernel_rfl) (by simp) ?_
            refine (AllE.cons (o := ({ dst := some 86, op := Op.call { callee := Callee.value (Operand.func 35), args := #[Operand.tmp 75, Operand.tmp 80, Operand.tmp 85], argTypes := #[84, 3, 3] }, type := 52, pos := "asm.go:71", after := #[{ on := 1, ground := Ground.data }, { on := 6, ground := Ground.data }, { on := 11, ground := Ground.data }, { on := 11, ground := Ground.chain }], guard := none } : Oper)) rfl (by decide) (fun K hK => ?_) AllE.nil)
            go_simp
            refine (HWI.out ft ff (by omega) (by omega) _).mono ?_
            rintro e V3 ⟨rfl, hV1⟩
            have hH1 : Below E W V3 := hHeld.trans (hV1.mono (by rw [← HE.out]; exact hHeld.size))
            refine hK.out _ _ ?kl12x13 (fun hHeld2 => ?_)
            case kl12x13 => exact hH1
            clear hK K
            try simp only [Act.put, List.setIfInBounds_toArray, List.set_cons_zero, List.set_cons_succ]
            replace hHeld := hHeld2
            clear hHeld2
            clear hV1 hH1
            refine wpAnyE_ready (rs := [13]) (by kernel_rfl) (by simp) ?_
            refine (AllE.cons (o := ({ dst := some 87, op := Op.buildSlice 29 1 #[(0, Operand.tmp 86)], type := 29, pos := "asm.go:71", after := #[{ on := 12, ground := Ground.data }], guard := none } : Oper)) rfl (by decide) (fun K hK => ?_) AllE.nil)
            go_simp
            refine hK.out _ _ ?kl13x14 (fun hHeld2 => ?_)
            case kl13x14 => exact hHeld.alloc (by rw [← HE.out]; exact hHeld.size) _
            clear hK K
            try simp only [Act.put, List.setIfInBounds_toArray, List.set_cons_zero, List.set_cons_succ]
            replace hHeld := hHeld2
            clear hHeld2
            refine wpAnyE_late (j := 14) (o := ({ dst := some 88, op := Op.call { callee := Callee.builtin Builtin.append, args := #[Operand.tmp 74, Operand.tmp 87], argTypes := #[29, 29] }, type := 29, pos := "asm.go:71", after := #[{ on := 0, ground := Ground.data }, { on := 13, ground := Ground.data }, { on := 12, ground := Ground.chain }], guard := none } : Oper)) (by kernel_rfl) (by decide) rfl (fun K hK => ?_)
            refine step_cellsG (by rfl) _ _ _ 52 (by rfl) Try.underlying29 infoI (by rfl) (by decide) (by rfl) (HOB.out _ hHeld) (by rfl) (ins1 V3 ⟨y.c, ft, ff, y.k⟩ _) (fun i _ => icell_one _ i) (by unfold maxLen; have := HPL.out; omega) (by have := HPL.out; omega) (by have := hHeld.size; omega) (st.1.length + 1) rfl (icell fun i => (st.1 ++ [(⟨y.c, ft, ff, y.k⟩ : IV)])[i]!) (fun i hi => icell_app st.1 [(⟨y.c, ft, ff, y.k⟩ : IV)] i (by simpa using hi)) ?_
            rintro A8 c8 W8 hO8 hg8
            have HM8 := HI.out.more (st' := (st.1 ++ [(⟨y.c, ft, ff, y.k⟩ : IV)], st.2)) (by omega) (W7 := _) (by rw [HE.out]; exact hHeld) A' c' HA.out HO.out hg8 hO8 (by simp) rfl
            have s8 := HM8.1.cell 0 _ rfl
            have s9 := HM8.1.frozen 0
            refine hK.out _ _ ?_
            clear hK K
            try simp only [Act.put, List.setIfInBounds_toArray, List.set_cons_zero, List.set_cons_succ]
            refine wpAnyE_late (j := 15) (o := ({ dst := none, op := Op.store 29 (Operand.tmp 3) (Operand.tmp 88), type := 0, pos := "asm.go:71", after := #[{ on := 14, ground := Ground.data }, { on := 14, ground := Ground.chain }, { on := 0, ground := Ground.phase }, { on := 1, ground := Ground.phase }, { on := 2, ground := Ground.phase }, { on := 3, ground := Ground.phase }, { on := 4, ground := Ground.phase }, { on := 5, ground := Ground.phase }, { on := 6, ground := Ground.phase }, { on := 7, ground := Ground.phase }, { on := 8, ground := Ground.phase }, { on := 9, ground := Ground.phase }, { on := 10, ground := Ground.phase }, { on := 11, ground := Ground.phase }, { on := 12, ground := Ground.phase }, { on := 13, ground := Ground.phase }, { on := 14, ground := Ground.phase }], guard := none } : Oper)) (by kernel_rfl) (by decide) rfl (fun K hK => ?_)
            go_simp
            refine hK.out _ _ ?_
            clear hK K
            try simp only [Act.put, List.setIfInBounds_toArray, List.set_cons_zero, List.set_cons_succ]
            refine wpAnyE_done (by kernel_rfl) ?_ _
            refine ⟨rfl, ?_⟩
            have HQ : Hid (pStep st y = (st.1 ++ [(⟨y.c, ft, ff, y.k⟩ : IV)], st.2)) := Lib.hid (by unfold pStep; rw [if_neg (fun h => h HM0.out), if_neg HK13.out, HFE.out.1, HFE.out.2, if_neg HFN.out])
            clear HSV HFT HFF HFQ HOB HPL
            gi_wp2
            refine ⟨by rw [hs3]; exact HM8.2.2.1, ⟨HM8.2.2.2.1 S2 (by rw [HE.out]; omega) (by omega) (by omega), HM8.2.2.2.1 pb (by rw [HE.out]; omega) (by omega) (by omega)⟩, ?_, hB.trans HM8.2.2.2.2, Nat.le_trans hWlo HM8.2.2.2.2.size⟩
            rw [HX.out, HQ.out, List.length_append, HNN.out]
            exact HM8.2.1
    · have f0 : (y.m == 0) = false := beq_eq_false_iff_ne.2 hm0
      obtain ⟨W', hrun, hP', hk', hb', hB'⟩ := HI.out.put (by omega) y.m HYO.out.2.2.1 (by unfold maxLen; omega) (by have := HPL.out; omega)
      have HE2 : Hid (PInvA W' B (S2 + 1) (N + 1) (pStep st y) ∧ KeepsFrom (S2 + 1) W W' ∧ (∀ g, g < W.heap.size → g ≠ B + 1 → W'.heap[g]? = W.heap[g]?) ∧ Below B W W') := Lib.hid ⟨by unfold pStep; rw [if_pos hm0]; exact hP', hk', hb', hB'⟩
      clear hP' hk' hb' hB'
      gi_wp2
      refine ⟨by rw [hs3]; exact HE2.out.2.1, ⟨HE2.out.2.2.1 S2 (by rw [HE.out]; omega) (by omega), HE2.out.2.2.1 pb (by rw [HE.out]; omega) (by omega)⟩, ?_, hB.trans HE2.out.2.2.2, Nat.le_trans hWlo HE2.out.2.2.2.size⟩
      rw [HX.out, List.length_append, HNN.out]
      exact HE2.out.1
  case done =>
    rintro D' ys W hD' rfl ⟨hI, hB, hWlo⟩ hK
    have hst : stF G (List.finRange m).reverse = pSt (rchI l).reverse := by
      unfold stF
      congr 1
      rw [List.map_reverse]
      congr 1
      refine List.ext_getElem (by simp [HM.out]) fun i i1 i2 => ?_
      rw [List.getElem_map, List.getElem_finRange]
      show G i = _
      have h := congrFun HG.out i
      rw [← h]
      exact getElem!_pos (rchI l) i i2
    rw [hst] at hI
    have HP := Lib.hid (show progI l = (pSt (rchI l).reverse).1.reverse from rfl)
    have hbd := (pSt_bound (rchI l).reverse).1
    rw [List.length_reverse, HM.out] at hbd
    generalize pSt (rchI l).reverse = st at *
    obtain ⟨A', c', hA, hO⟩ := hI.1
    have q0 := hA.cell 0 _ rfl
    have HREV := Lib.hid (rev_any rfl (by omega) hO)
    have HQ : Hid (∀ W' : World, (∀ k, (Value.slice A' st.1.length c').ownBlock ≠ some k → W'.heap[k]? = W.heap[k]?) → W'.cell? ⟨B, 0, none⟩ = some (.slice A' st.1.length c') ∧ W'.heap[D']? = some (.deferred (some []))) := Lib.hid fun W' h => by
      refine ⟨(World.cell?_of_block (h B fun e => ?_)).trans q0, (h D' fun e => ?_).trans hK⟩
      · have := (hO.obj e).1
        omega
      · obtain ⟨_, _, cs, h2⟩ := hO.obj e
        rw [hK] at h2
        injection h2 with h2
        cases h2
    have HHB := Lib.hid hB
    have HHO := Lib.hid hO
    clear hst hI hA hO hbd hB
    gi_wp2
    go_wp2_with fail
    refine HREV.out.mono ?_
    rintro e W' ⟨rfl, hO', hoth, hbel⟩
    obtain ⟨q1, hK'⟩ := HQ.out W' hoth
    have HO' := Lib.hid hO'
    have HBL := Lib.hid hbel
    clear hO' hoth hbel
    go_wp2
    refine ⟨by simp, .inl ⟨_, _, rfl, run_takeDeferred hK', ?_⟩⟩
    have hsz := hs3
    refine ⟨_, results_tmp rfl _ _ _, A', c', ?_, ?_, ?_⟩
    · rw [HP.out, List.length_reverse]
      rfl
    · rw [HP.out, List.length_reverse]
      refine (HO'.out.of_keep fun g hg => World.putObj_heap_other fun e => ?_).lower (by rw [HBS.out]; omega)
      obtain ⟨_, _, cs, h2⟩ := HO'.out.obj hg
      rw [e, hK'] at h2
      injection h2 with h2
      cases h2
    · have hb2 : Below B W' (W'.putObj D' (.deferred none)) := ⟨rfl, rfl, rfl, by simp [World.putObj], fun k hk => World.putObj_heap_other (by omega)⟩
      rw [HBS.out]
      exact (HHB.out.trans (HBL.out.mono (by omega))).trans hb2
  case stop =>
    rintro D' c' pre W _ _ h _
    exact h.elim
end Go.Proofs.Ytiofgaadfbjnoaa
