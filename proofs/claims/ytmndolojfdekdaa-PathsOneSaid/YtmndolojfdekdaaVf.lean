/-
  The contracts of the doings of a run that divide, or load a word.
-/
import Derived.Test.YtmndolojfdekdaaVc
import Derived.Test.YtmndolojfdekdaaWb
import Derived.Deep.RegionLaw
namespace Go.Proofs.Ytmndolojfdekdaa
open Go.RowKit

theorem div32 (a o : Nat) (ha : a < 4294967296) : (a : Int) / (o : Int) % 4294967296 = ((a / o : Nat) : Int) := by
  rw [← Int.natCast_ediv]
  have := Nat.div_le_self a o
  generalize a / o = q at *
  omega
set_option maxRecDepth 100000 in
set_option maxHeartbeats 4000000 in
theorem m19_any (f : Nat → Nat) (v : IV) (s : VS) (b B : Nat) (R : Value) (w : World) (h : StB w b B s R) (hbB : b < B) (hB : B ≤ w.heap.size) (hs : s.ok) (hv : v.ok) :
    Calls Try.prog 138 #[.pointer (some ⟨b, 0, none⟩), .agg (knA v)] w (Post b B R w (doK f 19 v s (oth v s))) := by
  have HB := Lib.hid h
  obtain ⟨A, c, h1, h2⟩ := h
  have hst : StA w b B s R A c := ⟨h1, h2⟩
  have hblt := h1.lt
  have hblt2 : b < w.heap.size + 1 := by omega
  have q0 : w.cell? ⟨b, 0, none⟩ = some (.int .u32 s.a) := h1.cell 0 _ rfl
  have z0 := h1.frozen 0
  have HST := Lib.hid hst
  have ho := oth_lt v s hv hs
  have ha := hs.1
  have HOT := Lib.hid (other_any v s b B R)
  clear h1 h2 hst
  obtain ⟨o, eo⟩ : ∃ o, oth v s = o := ⟨_, rfl⟩
  rw [eo] at ho HOT ⊢
  clear eo
  have HW := Lib.hid ((Below.refl w.heap.size w).alloc (Nat.le_refl _) (.cells (knA v) 142))
  obtain ⟨r, er⟩ : ∃ r, doK f 19 v s o = r := ⟨_, rfl⟩
  rw [er]
  unfold knA at HOT HW ⊢
  by_cases hz : o = 0
  · subst hz
    have ER : Hid (r = .stop 0 s) := Lib.hid (by rw [← er]; rfl)
    clear er
    go_enter Try.func138, Try.ntmps138
    go_wp2_with (go_at_call 162; refine (HOT.out _ (StB.below HB.out HW.out)).mono ?_; rintro e w2 ⟨rfl, rfl⟩)
    rw [ER.out]
    exact ⟨rfl, rfl, StB.below HB.out (HW.out.alloc HW.out.size _), Keep.of (HW.out.alloc HW.out.size _) hB⟩
  · have hz' : ((o : Int) == 0) = false := by rw [beq_eq_false_iff_ne]; omega
    have hz2 : ¬ (o : Int) = 0 := by omega
    have ER : Hid (r = .go (s.seta (s.a / o))) := Lib.hid (by rw [← er]; unfold doK; simp [hz])
    clear er hz
    go_enter Try.func138, Try.ntmps138
    go_wp2_with (go_at_call 162; refine (HOT.out _ (StB.below HB.out HW.out)).mono ?_; rintro e w2 ⟨rfl, rfl⟩)
    go_end0
    rw [ER.out]
    exact seta_end HST.out hbB hB _ (s.a / o) (div32 s.a o ha) _ rfl (((Below.refl _ _).alloc (by simp [World.setCell]) _).alloc (by simp [World.setCell]) _)

/-- An append of cells as a step of a region that draws its order: what is no cell of the row stays. -/
theorem step_cells4 {P : Program} {w : World} {ops : Array Oper} {o : Oper} {a : Act} {K : Act → World → Prop} {Q : Exit → Act → World → Prop} {R : Prop} (hgd : o.guard = none) (s x : Operand) (t E : TypeId)
    (ho : o.op = .call { callee := .builtin .append, args := #[s, x], argTypes := #[t, t] })
    (ht : P.underlying t = some (.slice E)) {zv : Value} {z by_ : Nat} (hinfo : (P.info? E).map (fun i => (i.zero, i.size, i.bytes)) = some (some zv, z, by_)) (hzs : zv.cells.size = z) (hz : 0 < z)
    {base n c m d : Nat} {A C : Option Addr} {F G : Nat → Value} (hs : a.eval s = .slice A n c) (hown : OwnC w base E z A n c F) (hx : a.eval x = .slice C m d) {B : Nat} (hr : Cel w B z C m d G) (h1c : ∀ i, i < m * z → (G i).oneCell' = true)
    (hn : n + m ≤ maxLen) (hby : (n + m) * by_ ≤ 140737488355328) (hbase : base ≤ w.heap.size) (N : Nat) (hN : n + m = N) (H : Nat → Value) (hH : ∀ i, i < N * z → catC (n * z) F G i = H i)
    (h : ∀ A' c' w', OwnC w' base E z A' N c' H → w.grownBy w' (Value.slice A n c).ownBlock → Below base w w' → K (a.put o.dst (.slice A' N c')) w') :
    if Region.wanted o (yielded ops a.tmps) = true then Oper.wp P o a w K Q else R := by
  subst hN
  have hw : Region.wanted o (yielded ops a.tmps) = true := by simp [Region.wanted, hgd]
  rw [if_pos hw]
  exact wp_cells w s x t E ho ht hinfo hzs hz hs hown hx hr h1c hn hby hbase fun A' c' w' h1 h2 h3 => h A' c' w' (h1.congr hH) h2 h3
theorem infoN : (Try.prog.info? 3).map (fun i => (i.zero, i.size, i.bytes)) = some (some (.int .i64 0), 1, 8) := by kernel_rfl
theorem one_int (w : World) (k : Nat) (E : TypeId) : Cel (w.alloc (.cells #[.int .i64 k] E)) (w.heap.size + 1) 1 (some ⟨w.heap.size, 0, none⟩) 1 1 (fun _ => .int .i64 k) :=
  Cel.mk_ (by omega) (by decide) (by decide) (fun i hi => by
    obtain rfl : i = 0 := by omega
    simp)
theorem lcell_cat (l : List Nat) (k : Nat) : ∀ i, i < (l.length + 1) * 1 → catC (l.length * 1) (lcell l) (fun _ => .int .i64 (k : Nat)) i = lcell (l ++ [k]) i := fun i hi => by
  unfold catC lcell
  by_cases h : i < l.length * 1
  · rw [if_pos h]
    simp [List.getD_eq_getElem?_getD, List.getElem?_append_left (show i < l.length by omega)]
  · rw [if_neg h]
    obtain rfl : i = l.length := by omega
    simp [List.getD_eq_getElem?_getD]

set_option maxRecDepth 100000 in
set_option maxHeartbeats 8000000 in
theorem m1_any (f : Nat → Nat) (v : IV) (s : VS) (b B : Nat) (A2 : Option Addr) (c2 : Nat) (w : World) (o : Nat) (h : StB w b B s (.slice A2 64 c2)) (hbB : b < B) (hB : B ≤ w.heap.size) (hk : v.k + 4 ≤ 64) (hby : Byt w w.heap.size A2 64 c2 f) (hl : s.ld.length ≤ 1000000) :
    Calls Try.prog 120 #[.pointer (some ⟨b, 0, none⟩), .agg (knA v)] w (Post b B (.slice A2 64 c2) w (doK f 1 v s o)) := by
  have HB := Lib.hid h
  obtain ⟨A, c, h1, h2⟩ := h
  have hblt := h1.lt
  have q21 : w.cell? ⟨b, 21, none⟩ = some (.slice A2 64 c2) := h1.cell 21 _ rfl
  have HY := Lib.hid hby
  have hst : StA w b B s (.slice A2 64 c2) A c := ⟨h1, h2⟩
  have HST := Lib.hid hst
  have v0 : IntKind.i64.wrap (v.k : Int) = (v.k : Int) := IntWalk.i64_in _ (by omega)
  have hnum : num (fun i => f (pln false v.k 4 i)) 4 = num (fun i => f (v.k + i)) 4 := num_congr _ _ _ (fun i _ => rfl)
  have hlt : num (fun i => f (v.k + i)) 4 < 4294967296 := num_lt _ 4 (fun i hi => hby.lt (by omega))
  have HG := Lib.hid (fun (W : World) (hW : Below w.heap.size w W) => get_ok false A2 64 c2 v.k 4 f W (by decide) (by decide) hk ((hby.below hW).more hW.size))
  rw [hnum] at HG
  obtain ⟨N, hN⟩ : ∃ N, num (fun i => f (v.k + i)) 4 = N := ⟨_, rfl⟩
  rw [hN] at HG hlt
  have ER : Hid (doK f 1 v s o = .go ⟨N, s.x, s.cl, s.nx, s.st, s.ld ++ [v.k]⟩) := Lib.hid (by rw [← hN]; rfl)
  obtain ⟨r, er⟩ : ∃ r, doK f 1 v s o = r := ⟨_, rfl⟩
  rw [er] at ER ⊢
  have v1 : IntKind.u32.wrap (N : Int) = (N : Int) := IntWalk.u32_in _ (by omega)
  have HW := Lib.hid ((Below.refl w.heap.size w).alloc (Nat.le_refl _) (.cells (knA v) 142))
  have hbox : RowAt (w.alloc (.cells (knA v) 142)) w.heap.size (knA v) 142 := heap_alloc_last w _
  have HX := Lib.hid hbox
  clear er hN hnum h1 h2 hst hby hbox
  unfold knA at HW HX ⊢
  go_enter Try.func120, Try.ntmps120
  go_wp2
  go_region_with (
    (go_at_call 74
     refine (HG.out _ HW.out.drew).mono ?_
     rintro e w2 ⟨rfl, hB2⟩))
  all_goals
    have hz2 : w.heap.size + 1 ≤ w2.heap.size := by have := hB2.size; simp at this; omega
    have hb2 : Below w.heap.size w w2 := HW.out.drew.trans (hB2.mono (by simp))
    have hbx : RowAt w2 w.heap.size #[.int .u16 v.c, .int .u8 v.t, .int .u8 v.f, .int .u32 v.k, .int .i64 (kd v), .bool (xx v)] 142 := HX.out.below ((Below.refl _ _).drew.trans hB2) (by simp)
    have hq0 : w2.cell? ⟨b, 0, none⟩ = some (.int .u32 s.a) := (HST.out.1.below hb2 hblt).cell 0 _ rfl
    have hz0 := (HST.out.1.below hb2 hblt).frozen 0
    have r3 : RowAt (w2.setCell ⟨b, 0, none⟩ (.int .u32 N)) b (scells (s.seta N) A c (.slice A2 64 c2)) 175 := (HST.out.1.below hb2 hblt).set 0 (.int .u32 N)
    have o3 : OwnC (w2.setCell ⟨b, 0, none⟩ (.int .u32 N)) B 3 1 A s.ld.length c (lcell s.ld) := (HST.out.2.keep hb2).set_other hbB 0 _
    have x3 : (w2.setCell ⟨b, 0, none⟩ (.int .u32 N)).cell? ⟨w.heap.size, 3, none⟩ = some (.int .u32 v.k) := (World.cell?_setCell_other w2 _ _ _ (by intro e; injection e; omega)).trans (hbx.cell 3 _ rfl)
    have k3 : Keep b B w (w2.setCell ⟨b, 0, none⟩ (.int .u32 N)) := (Keep.of hb2 hB).set 0 _
    have s3 : w.heap.size + 1 ≤ (w2.setCell ⟨b, 0, none⟩ (.int .u32 N)).heap.size := by simpa [World.setCell] using hz2
    have R3 := Lib.hid r3
    have O3 := Lib.hid o3
    have X3 := Lib.hid x3
    have K3 := Lib.hid k3
    have S3 := Lib.hid s3
    clear hbx r3 o3 x3 k3 s3 hB2 HX HW HG
    go_wp2
    generalize w2.setCell ⟨b, 0, none⟩ (.int .u32 N) = w3 at *
    have q20 : w3.cell? ⟨b, 20, none⟩ = some (.slice A s.ld.length c) := R3.out.cell 20 _ rfl
    have z20 := R3.out.frozen 20
    have x3 := X3.out
    have hbl : b < w3.heap.size := R3.out.lt
    have hbl2 : b < w3.heap.size + 1 := by omega
    have hwl : w.heap.size < w3.heap.size := by have := S3.out; omega
    have q20' : ∀ o, (w3.alloc o).cell? ⟨b, 20, none⟩ = some (.slice A s.ld.length c) := fun o => cell_alloc_l o q20
    have z20' : ∀ o, (w3.alloc o).frozen? ⟨b, 20, none⟩ = false := fun o => frozen_alloc_l o q20 z20
    have x3' : ∀ o, (w3.alloc o).cell? ⟨w.heap.size, 3, none⟩ = some (.int .u32 v.k) := fun o => cell_alloc_l o x3
    go_region_law
      (first
        | (refine step_cells4 (by rfl) _ _ _ 3 (by rfl) Try.underlying32 infoN (by rfl) (by decide) (by rfl) (O3.out.alloc _).drew (by rfl) (one_int w3 v.k 3) (fun i _ => rfl) (by unfold maxLen; omega) (by omega) (by have := S3.out; simp; omega) (s.ld ++ [v.k]).length (by simp) (lcell (s.ld ++ [v.k])) (by intro i hi; exact lcell_cat s.ld v.k i (by simpa using hi)) ?_
           rintro A5 c5 w5 hown5 hg5 hB5
           have hk5 : Below B w3 w5 := ((Below.refl B w3).alloc (by have := S3.out; omega) _).drew.trans hB5
           have q5 := (hk5.cell (p := ⟨b, 20, none⟩) hbB).trans q20
           have z5 := (hk5.frozen (p := ⟨b, 20, none⟩) hbB).trans z20))
    all_goals go_wp2
    all_goals go_end0
    all_goals rw [ER.out]
    all_goals
      have e5 : (scells (s.seta N) A c (.slice A2 64 c2)).setIfInBounds 20 (.slice A5 (s.ld.length + 1) c5) = scells ⟨N, s.x, s.cl, s.nx, s.st, s.ld ++ [v.k]⟩ A5 c5 (.slice A2 64 c2) := by simp [scells, VS.seta]
      have r5 := (R3.out.below hk5 hbB).set 20 (.slice A5 (s.ld.length + 1) c5)
      rw [e5] at r5
      exact ⟨rfl, ⟨A5, c5, r5, hown5.set_other hbB 20 _⟩, (K3.out.trans (Keep.of hk5 (Nat.le_refl B))).set 20 _⟩
end Go.Proofs.Ytmndolojfdekdaa
