/-
  The law PathsOne holds for every input: each record takes just one path, and a run tells its value, with its steps. No condition.
-/
import Derived.Test.YtmndolojfdekdaaWym
import Derived.Test.YtmndolojfdekdaaIf
import Derived.Test.YtmndolojfdekdaaOar
import Derived.Test.YtmndolojfdekdaaRows
import Derived.Below
import Derived.ChangeOld
import Derived.ShutString
import Derived.Lib.SmallJoins
import Derived.OpenShut
import Derived.ProofKit
import Derived.WalkKit
import Derived.Deep.QuietTactic
import Derived.BigQuiet
import Derived.Deep.RegionWith
import Derived.Deep.RegionHeld3
namespace Go.Proofs.Ytmndolojfdekdaa
open Go.RowKit Go.Shelf
set_option linter.unusedVariables false

theorem vrun_okP (A : Option Addr) (n c : Nat) (g : Nat → IV) (A2 : Option Addr) (c2 : Nat) (f : Nat → Nat) (w : World) (val st : Nat) (sF : VS) (hr : Ins w w.heap.size A n c g) (he : (checkF g n).2 = 0)
    (hby : Byt w w.heap.size A2 64 c2 f) (hf : ∀ i, f i < 256) (hrun : runF g f n zst = some (val, sF)) (hst : sF.st = st) :
    Calls Try.prog 27 #[.slice A n c, .slice A2 64 c2] w fun e w' => (∃ A' m' c', e = .returned (.tuple #[.agg #[.int .u32 val, .int .i64 st, .slice A' m' c'], .int .i64 0])) ∧ Below w.heap.size w w' := by
  subst hst
  exact (vrun_ok A n c g A2 c2 f w val sF hr he hby hf hrun).mono fun e w' ⟨A', c', h1, _, h2⟩ => ⟨⟨A', _, c', h1⟩, h2⟩
/-- What is read of the end of a run. -/
def OutP (W : World) (blk val st n : Nat) (A : Option Addr) (c : Nat) : Prop := RowAt W blk #[.int .u32 val, .int .i64 st, .slice A n c] 62
theorem OutP.new (w : World) (val st n : Nat) (A : Option Addr) (c : Nat) : OutP (w.alloc (.cells #[.int .u32 val, .int .i64 st, .slice A n c] 62)) w.heap.size val st n A c := heap_alloc_last w _
theorem plainB_check {g : Nat → IV} {n : Nat} (h : plainB g n = true) : (checkF g n).2 = 0 := by
  unfold plainB at h
  simp only [Bool.and_eq_true, decide_eq_true_eq] at h
  exact h.1
theorem tkN_le (f : Nat → Nat) (L : List PV) (k : Nat) : tkN f L k ≤ k := by
  unfold tkN
  have h1 := List.length_filter_le (tkB f) (L.take k)
  have h2 := List.length_take_le k L
  omega
/-- A path's cells. -/
theorem pth_at {w : World} {A : Option Addr} {c : Nat} {L : List PV} {S : Nat → Option Addr × Nat} (h : Pths w A c L S) {k : Nat} (hk : k < L.length) {v : PV} (hv : L[k]! = v) : ∃ b off, A = some ⟨b, off, none⟩ ∧ b < w.heap.size ∧
    w.cell? ⟨b, off + k * 3, none⟩ = some (.slice (S k).1 v.ts.length (S k).2) ∧ w.cell? ⟨b, off + k * 3 + 1, none⟩ = some (.int .i64 v.st) ∧ w.cell? ⟨b, off + k * 3 + 2, none⟩ = some (.int .u32 v.v) ∧ Cel w w.heap.size 5 (S k).1 v.ts.length (S k).2 (tscell fun j => v.ts[j]!) := by
  subst hv
  obtain ⟨b, off, rfl, hb, hc⟩ := h.1.at_ (by omega)
  refine ⟨b, off, rfl, hb, ?_, ?_, ?_, h.2 k hk⟩
  · have := hc (k * 3) (by omega)
    rw [this]
    unfold pvcell
    rw [if_pos (by omega), show k * 3 / 3 = k by omega]
  · have := hc (k * 3 + 1) (by omega)
    rw [← Nat.add_assoc] at this
    rw [this]
    unfold pvcell
    rw [if_neg (by omega), if_pos (by omega), show (k * 3 + 1) / 3 = k by omega]
  · have := hc (k * 3 + 2) (by omega)
    rw [← Nat.add_assoc] at this
    rw [this]
    unfold pvcell
    rw [if_neg (by omega), if_neg (by omega), show (k * 3 + 2) / 3 = k by omega]
set_option maxRecDepth 100000 in
set_option maxHeartbeats 8000000 in
theorem walk_PathsOne {w0 : World} (A : Option Addr) (n c : Nat) (g : Nat → IV) (hr : Ins w0 w0.heap.size A n c g) (f0 : Nat → Nat) (hf : ∀ i, i < 64 → f0 i < 256) :
    Calls Try.prog 5 #[.slice A n c, .agg (arrB 64 f0)] w0 fun e w' => e = .returned (.bool true) ∧ Below w0.heap.size w0 w' := by
  have hmx := hr.1.le
  unfold maxLen at hmx
  obtain ⟨m1, m2⟩ := hmx
  obtain ⟨f, hfe⟩ : ∃ f, lim f0 = f := ⟨_, rfl⟩
  have hff : ∀ i, f i < 256 := by subst hfe; exact lim_lt f0 hf
  obtain ⟨D, hD⟩ : ∃ D, arrB 64 f0 = D := ⟨_, rfl⟩
  have hb0 : Below w0.heap.size w0 (w0.alloc (.cells D 60)) := (Below.refl _ _).alloc (Nat.le_refl _) _
  have ha0 : ArB (w0.alloc (.cells D 60)) w0.heap.size 64 60 f0 := by rw [← hD]; exact heap_alloc_last w0 _
  have hby0 : Byt (w0.alloc (.cells D 60)) (w0.alloc (.cells D 60)).heap.size (some ⟨w0.heap.size, 0, none⟩) 64 64 f := by subst hfe; exact byt_lim (ha0.byt (by decide) ha0.lt hf)
  have hin0 : Ins (w0.alloc (.cells D 60)) (w0.alloc (.cells D 60)).heap.size A n c g := (hr.below hb0).more hb0.size
  have hsl := sl_all
  rw [hD]
  by_cases h1 : 40 < n
  · have hbb := Lib.hid hb0
    clear hr hD ha0 hby0 hin0
    go_enter Try.func5, Try.ntmps5
    go_wp2
    go_ret
    exact ⟨rfl, hbb.out⟩
  · have HB0 := Lib.hid hb0
    have HY0 := Lib.hid hby0
    have HI0 := Lib.hid hin0
    have HFF := Lib.hid hff
    have hs1 : w0.heap.size < (w0.alloc (.cells D 60)).heap.size := by simp
    clear hr hD ha0 hby0 hin0 hb0 hf hfe hff
    go_enter Try.func5, Try.ntmps5
    go_wp2_with fail
    generalize w0.alloc (.cells D 60) = W1 at *
    refine (all27_any A n c g _ (by omega) HI0.out).mono ?_
    rintro e w2 ⟨A2, c2, rfl, hown2, hB2⟩
    have hi2 : Ins w2 w2.heap.size A2 n c2 g := ⟨hown2.cel, HI0.out.2⟩
    have HI2 := Lib.hid hi2
    have HB2 := Lib.hid (HB0.out.trans (hB2.mono HB0.out.size))
    have HY2 := Lib.hid ((HY0.out.below hB2).more hB2.size)
    have hs2 := hB2.size
    clear hown2 hB2 hi2
    go_wp2_with fail
    refine (all_any A2 n c2 g _ HI2.out).mono ?_
    rintro e w3 ⟨hR, hB3⟩
    have HB3 := Lib.hid (HB2.out.trans (hB3.mono HB2.out.size))
    have HI3 := Lib.hid ((HI2.out.below hB3).more hB3.size)
    have HY3 := Lib.hid ((HY2.out.below hB3).more hB3.size)
    have hs3 := hB3.size
    clear hB3
    rcases hR with ⟨_, rfl⟩ | ⟨_, _, rfl⟩ | ⟨hp, hm, A3, c3, S3, rfl, hP3⟩
    · go_wp2_with (go_at_call 23; refine (awake27_any _).mono ?_; rintro e w5 ⟨rfl, hB5⟩; have HB5 := Lib.hid (HB3.out.trans (hB5.mono HB3.out.size)); clear hB5)
      go_ret
      exact ⟨rfl, HB5.out⟩
    · go_wp2_with (go_at_call 23; refine (awake27_any _).mono ?_; rintro e w5 ⟨rfl, hB5⟩; have HB5 := Lib.hid (HB3.out.trans (hB5.mono HB3.out.size)); clear hB5)
      go_ret
      exact ⟨rfl, HB5.out⟩
    · obtain ⟨hF, hk, _⟩ := plainB_facts hp
      obtain ⟨val, sF, ts', hrun, hfl⟩ := run_one hF hk f HFF.out
      have hce := plainB_check hp
      have hlen : (pF g n 0 0 0 [] 0).length ≤ 4096 := by rw [pF_len]; exact hm
      have hok := pF_ok hF hk HI3.out.2 n 0 0 0 [] 0 hF.pos (by decide) (by decide) (fun x hx => by cases hx)
      obtain ⟨L, hL⟩ : ∃ L, pF g n 0 0 0 [] 0 = L := ⟨_, rfl⟩
      obtain ⟨st, hst⟩ : ∃ st, sF.st = st := ⟨_, rfl⟩
      rw [hL] at hP3 hfl hlen hok
      rw [hst] at hfl
      rw [hL]
      have HVR := Lib.hid (vrun_okP A2 n c2 g (some ⟨w0.heap.size, 0, none⟩) 64 f w3 val st sF HI3.out hce HY3.out HFF.out hrun hst)
      have HOK := Lib.hid hok
      have HFL := Lib.hid hfl
      have HP3 := Lib.hid hP3
      have HTA := Lib.hid (tkN_all hfl)
      have HT0 : Hid ((tkN f L 0 : Nat) = 0) := Lib.hid rfl
      clear hp hm hF hk hrun hfl hce hok hL hst hP3
      go_wp2_with fail
      refine HVR.out.mono ?_
      rintro e w4 ⟨⟨A4, m4, c4, rfl⟩, hB4⟩
      have ho4 := OutP.new w4 val st m4 A4 c4
      have hb4 : Below w3.heap.size w3 (w4.alloc (.cells #[.int .u32 val, .int .i64 st, .slice A4 m4 c4] 62)) := hB4.alloc hB4.size _
      have HB4 := Lib.hid (HB3.out.trans (hb4.mono HB3.out.size))
      have HY4 := Lib.hid ((HY3.out.below hb4).more hb4.size)
      have HP4 := Lib.hid (HP3.out.keep hb4)
      have HO4 := Lib.hid ho4
      clear ho4 hb4 HP3 HY3 HI3 HVR
      go_wp2_with fail
      generalize (w4.alloc (.cells #[.int .u32 val, .int .i64 st, .slice A4 m4 c4] 62)) = W4 at *
      generalize w4.heap.size = B4 at *
      obtain ⟨N, hN⟩ : ∃ N, L.length = N := ⟨_, rfl⟩
      rw [hN] at hlen HTA
      rw [hN]
      go_loopw [10, 11] (fun t i wr => ∃ k : Nat, k ≤ N ∧ i = .int .i64 k ∧ t = .int .i64 (tkN f L k : Nat) ∧ Hid (Below W4.heap.size W4 wr)) (fun _ i _ => N - (intOf i).toNat)
      case atStart => exact ⟨0, Nat.zero_le _, rfl, by rw [HT0.out]; rfl, Lib.hid (Below.refl _ _)⟩
      case round =>
        obtain ⟨k, hk, rfl, rfl, HBr⟩ := hrel
        have hsr := HBr.out.size
        by_cases hlt : k < N
        · obtain ⟨v, hv⟩ : ∃ v, L[k]! = v := ⟨_, rfl⟩
          obtain ⟨b, off, rfl, hbl, q0, q1, q2, hts⟩ := pth_at (HP4.out.keep HBr.out) (hN ▸ hlt) hv
          have hvm : v ∈ L := by rw [← hv, getElem!_pos L k (by omega)]; exact List.getElem_mem _
          obtain ⟨ho1, ho2, ho3⟩ := HOK.out v hvm
          have ho2 : v.ts.length ≤ 1000000 := by have : ([] : List TV).length + n ≤ 40 := by simp; omega
                                                 omega
          have HTK : Hid (tkN f L (k + 1) = tkN f L k + if tkB f v = true then 1 else 0) := Lib.hid (by rw [tkN_succ f L k (by omega), hv])
          have HTS : Hid (tkB f v = true → v.st = st ∧ v.v = val) := Lib.hid fun ht => by
            have e := tk_same HFL.out (by omega : k < L.length) (by rw [hv]; exact ht)
            rw [hv] at e
            subst e
            exact ⟨rfl, rfl⟩
          have HTV : Hid (∀ W, Below wr.heap.size wr W → Calls Try.prog 28 #[.agg #[.slice (S3 k).1 v.ts.length (S3 k).2, .int .i64 v.st, .int .u32 v.v], .slice (some ⟨w0.heap.size, 0, none⟩) 64 64] W fun e w' => e = .returned (.bool (tkB f v)) ∧ Below W.heap.size W w') := Lib.hid fun W hW =>
            (taken_any (S3 k).1 v.ts.length (S3 k).2 (fun j => v.ts[j]!) v.st v.v (some ⟨w0.heap.size, 0, none⟩) 64 64 f W ho2 ((hts.below hW).more hW.size) (fun i hi => by rw [getElem!_pos v.ts i hi]; exact ho1 _ (List.getElem_mem _)) (by decide) ((((HY4.out.below HBr.out).more hsr).below hW).more hW.size)).mono fun e w' ⟨h1, h2⟩ => ⟨by rw [h1, allF_list]; simp [tkB], h2⟩
          have x0 := RowAt.cell (RowAt.below HO4.out HBr.out (RowAt.lt HO4.out)) 0 _ rfl
          have x1 := RowAt.cell (RowAt.below HO4.out HBr.out (RowAt.lt HO4.out)) 1 _ rfl
          have hB4l := RowAt.lt HO4.out
          generalize tkB f v = tb at *
          obtain ⟨ts, vs, vv⟩ := v
          dsimp only at q0 q1 q2 HTS HTV
          generalize ts.length = tl at *
          have i1 : (0 : Int) ≤ (k : Int) := by omega
          have i2 : (k : Int) < (N : Int) := by omega
          clear hts ho1 ho2 ho3 hvm hv
          go_wp2
          have HM : Hid (∀ W, Below wr.heap.size wr W → W.cell? ⟨b, off + k * 3, none⟩ = some (.slice (S3 k).1 tl (S3 k).2) ∧ W.cell? ⟨b, off + k * 3 + 1, none⟩ = some (.int .i64 vs) ∧ W.cell? ⟨b, off + k * 3 + 2, none⟩ = some (.int .u32 vv)) := Lib.hid fun W hW => ⟨(hW.cell (p := ⟨b, off + k * 3, none⟩) hbl).trans q0, (hW.cell (p := ⟨b, off + k * 3 + 1, none⟩) hbl).trans q1, (hW.cell (p := ⟨b, off + k * 3 + 2, none⟩) hbl).trans q2⟩
          have HX : Hid (∀ W, Below wr.heap.size wr W → W.cell? ⟨B4, 0, none⟩ = some (.int .u32 val) ∧ W.cell? ⟨B4, 1, none⟩ = some (.int .i64 st)) := Lib.hid fun W hW => ⟨(hW.cell (p := ⟨B4, 0, none⟩) (Nat.lt_of_lt_of_le hB4l hsr)).trans x0, (hW.cell (p := ⟨B4, 1, none⟩) (Nat.lt_of_lt_of_le hB4l hsr)).trans x1⟩
          obtain ⟨z, hz⟩ : ∃ z, tkN f L k = z := ⟨_, rfl⟩
          have hzk : z ≤ k := by rw [← hz]; exact tkN_le f L k
          rw [hz] at HTK
          rw [hz]
          clear q0 q1 q2 x0 x1 hz
          go_region_held3 (fun w' => w'.cell? ⟨b, off + k * 3, none⟩ = some (.slice (S3 k).1 tl (S3 k).2) ∧ w'.cell? ⟨b, off + k * 3 + 1, none⟩ = some (.int .i64 vs) ∧ w'.cell? ⟨b, off + k * 3 + 2, none⟩ = some (.int .u32 vv))
            (first | (with_reducible exact HM.out _ (by assumption)) | exact HM.out _ (Below.refl _ _) | exact HM.out _ (Below.refl _ _).drew)
            (first | (go_at_call 28; (refine (HTV.out _ (Below.refl _ _).drew).mono ?_); rintro e w5 ⟨rfl, hB5⟩; have HK5 : Below wr.heap.size wr w5 := (Below.refl _ _).drew.trans hB5))
          cases tb
          · go_wp2
            exact ⟨⟨k + 1, by omega, by go_num, by rw [HTK.out]; rfl, Lib.hid (HBr.out.trans (HK5.mono HBr.out.size))⟩, by simp [intOf]; omega⟩
          · obtain ⟨rfl, rfl⟩ := HTS.out rfl
            obtain ⟨y0, y1, y2⟩ := HM.out _ HK5
            obtain ⟨x0, x1⟩ := HX.out _ HK5
            have t1 : ((vv : Int) != (vv : Int)) = false := by simp
            have t2 : ((vs : Int) != (vs : Int)) = false := by simp
            go_wp2
            go_quiet (fail)
            go_wp2
            exact ⟨⟨k + 1, by omega, by go_num, by rw [HTK.out]; rfl, Lib.hid (bdn (HBr.out.trans (HK5.mono HBr.out.size)) _)⟩, by simp [intOf]; omega⟩
        · obtain rfl : k = N := by omega
          rw [HTA.out]
          have HBZ := Lib.hid (HB4.out.trans (HBr.out.mono HB4.out.size))
          go_wp2_with (go_at_call 23; refine (awake27_any _).mono ?_; rintro e w5 ⟨rfl, hB5⟩; have HB5 := Lib.hid (HBZ.out.trans (hB5.mono HBZ.out.size)); clear hB5)
          go_ret
          exact ⟨rfl, HB5.out⟩

namespace pathsOneRow
open Go.ChangeShapes Go.WideShapes Go.ChangeAt Go.RowKit Go.Joins
open Go.ChangeMaps (open_string shut_string)
set_option linter.unusedVariables false
theorem own : ownKnob Try.prog.godebug = none := by kernel_rfl
theorem laidOut : laidOutB Try.prog = true := by kernel_rfl
set_option maxRecDepth 100000 in
theorem lifted (os : Os) (started : os.Started) (H : Type) (enc : TypeId × Value → H) :
    ReturnsInHanded {} Try.checked os 5 .any (Rows.pathsOneSpec.pre6 enc Try.prog Try.f5 Rows.pathsOneRow.domain false) (Rows.pathsOneSpec.post enc Try.prog Try.f5 false true false false) := by
  refine returnsInHanded_of_change (C := Try.checked) own started (by kernel_rfl) Try.func5
    (ChangeSpec.witness6 (enc := enc) (C := Try.checked) false ⟨#[], #[.slice none 0 0, .agg #[.int .u8 0, .int .u8 0, .int .u8 0, .int .u8 0, .int .u8 0, .int .u8 0, .int .u8 0, .int .u8 0, .int .u8 0, .int .u8 0, .int .u8 0, .int .u8 0, .int .u8 0, .int .u8 0, .int .u8 0, .int .u8 0, .int .u8 0, .int .u8 0, .int .u8 0, .int .u8 0, .int .u8 0, .int .u8 0, .int .u8 0, .int .u8 0, .int .u8 0, .int .u8 0, .int .u8 0, .int .u8 0, .int .u8 0, .int .u8 0, .int .u8 0, .int .u8 0, .int .u8 0, .int .u8 0, .int .u8 0, .int .u8 0, .int .u8 0, .int .u8 0, .int .u8 0, .int .u8 0, .int .u8 0, .int .u8 0, .int .u8 0, .int .u8 0, .int .u8 0, .int .u8 0, .int .u8 0, .int .u8 0, .int .u8 0, .int .u8 0, .int .u8 0, .int .u8 0, .int .u8 0, .int .u8 0, .int .u8 0, .int .u8 0, .int .u8 0, .int .u8 0, .int .u8 0, .int .u8 0, .int .u8 0, .int .u8 0, .int .u8 0, .int .u8 0]], []⟩ 8 (by kernel_rfl) (by kernel_rfl) (by kernel_rfl) (by kernel_rfl)) ?_
  intro W base args ds gs before hval0 hW hcnd _
  have hval : ∀ (j : Nat) t v, Try.f5.params[j]? = some t → args[j]? = some v → Value.okWide Try.prog W .any base t v := hval0
  have hW' := hW
  obtain ⟨p, q, hA0, hV, rfl, hfz, hnd⟩ := hW
  have hA : DataW.TrodAll enc Try.prog W 0 (fun _ => true) true Try.f5.params.toList args.toList ds p := hA0
  rw [Try.params5] at hA hval
  obtain ⟨v0, vs0, d0, ds0, p0, q0, hargs, rfl, rfl, h0, r0⟩ := trodAll_cons hA
  obtain ⟨v1, vs1, d1, ds1, p1, q1, rfl, rfl, rfl, h1, r1⟩ := trodAll_cons r0
  obtain ⟨rfl, rfl, rfl⟩ := trodAll_nil r1
  obtain rfl : args = #[v0, v1] := by cases args; simp_all
  obtain ⟨rfl, rfl⟩ := trodVars_none hV
  have k0 := h0
  have lt0 : ∀ x ∈ p0, x.block < W.heap.size := by obtain ⟨m, hm⟩ := k0; exact DataW.trod_lt m _ _ _ hm
  have k1 := h1
  have lt1 : ∀ x ∈ p1, x.block < W.heap.size := by obtain ⟨m, hm⟩ := k1; exact DataW.trod_lt m _ _ _ hm
  obtain ⟨a0, len0, cap0, rfl⟩ := okWide_slice Try.underlying22 (hval 0 22 v0 rfl rfl)
  obtain ⟨g0, w0⟩ := open_ins h0
  obtain ⟨f1, rfl, w1⟩ := open_arrB (hval 1 60 v1 rfl rfl) h1
  clear hA0 hval0
  refine (walk_PathsOne (w0 := W) a0 len0 cap0 g0 w0 f1 w1).mono fun e W' ⟨he, bel⟩ => ?_
  subst he
  exact ⟨_, rfl, _, _, _, [], _, [], hW', trodAll_mk1 (shut_bool Try.underlying4 _), (trodAll_cons_mk (Below.trod laidOut (by kernel_rfl) (of_decide_eq_true (by kernel_rfl)) k0 bel lt0) (trodAll_cons_mk (Below.trod laidOut (by kernel_rfl) (of_decide_eq_true (by kernel_rfl)) k1 bel lt1) trodAll_mk0)), rfl, bel.frame _, fun h => by cases h⟩

theorem over_inPlace : (Rows.pathsOneRow.inPlace == Try.prog.inPlace 5) = true := by kernel_rfl
theorem over_unfollowed : (Rows.pathsOneRow.unfollowed == Try.prog.unfollowed 5) = true := by kernel_rfl
theorem over_recurses : (Rows.pathsOneRow.recurses == Try.prog.recurses 5) = true := by kernel_rfl
theorem over_named : (Rows.pathsOneRow.named == Try.prog.varsNamed 5) = true := by kernel_rfl
theorem over_closed : joinedFacts Try.prog 5 Try.f5 Rows.pathsOneSpec Rows.pathsOneRow = true := by
  unfold joinedFacts
  rw [over_inPlace, over_unfollowed, over_recurses, over_named, laidOut]
  kernel_rfl
theorem over_found : Try.prog.funcNamed Rows.pathsOneRow.func = some 5 := by kernel_rfl
theorem over : Rows.pathsOneRow.holds Try.pinned (OpenSpec.ofChange Rows.pathsOneSpec) :=
  OpenClaim.holds_of_wide 5 Try.f5 rfl rfl rfl rfl rfl rfl rfl ⟨rfl, rfl, rfl, rfl, rfl⟩ rfl rfl rfl rfl rfl over_found Try.func5 over_closed
    (of_decide_eq_true (by kernel_rfl)) (by unfold Func.isWrapper; first | (rw [if_pos (by decide +kernel)]; kernel_rfl) | (rw [if_neg (by decide +kernel)]; exact ⟨rfl, rfl⟩))
    (fun os started H enc _ => lifted os started H enc)
end pathsOneRow

theorem pathsOne_proved : Rows.PathsOneSaid := pathsOneRow.over
#print axioms pathsOne_proved
end Go.Proofs.Ytmndolojfdekdaa
