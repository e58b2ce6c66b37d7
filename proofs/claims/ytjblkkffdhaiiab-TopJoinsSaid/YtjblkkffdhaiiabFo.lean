/-
  moved at a reached place; the append of one instruction, as a run.
-/
import Derived.Test.YtjblkkffdhaiiabFl
import Derived.Test.YtjblkkffdhaiiabFj
namespace Go.Proofs.Ytjblkkffdhaiiab
open Go.RowKit Go.Shelf

theorem nowF_at {g : Nat → IV} {n i : Nat} (hi : i < n) (h : way g n i = true) : nowF g n i = cnt g n i := by unfold nowF; rw [if_pos ⟨hi, h⟩]
theorem nowF_le (g : Nat → IV) (n : Nat) (hn : n ≤ 4096) (j : Nat) : nowF g n j ≤ 4096 := by
  unfold nowF; split
  · rename_i h; have := cnt_le g n j; omega
  · omega
theorem far_facts {g : Nat → IV} {n i f : Nat} (F : Fmd g n) (hi : i < n) (hw : way g n i = true) (hf : f ∈ fars (g i)) :
    i + 1 + f < n ∧ nowF g n (i + 1 + f) = cnt g n (i + 1 + f) ∧ cnt g n i + 1 ≤ cnt g n (i + 1 + f) ∧ cnt g n (i + 1 + f) - cnt g n i - 1 ≤ f := by
  have hm : i + 1 + f ∈ nexts (g i) i := List.mem_map.2 ⟨f, hf, rfl⟩
  have hl := next_lt F hi hm
  have h1 := cnt_mono g n (i + 1 + f) (i + 1) (by omega)
  have h2 := cnt_at hw
  have h3 := cnt_far g n (i + 1) f
  exact ⟨hl, nowF_at hl (way_next F hi hw hm), by omega, by omega⟩
def mvA (v : IV) : Value := .agg #[.int .u16 v.c, .int .u8 v.t, .int .u8 v.f, .int .u32 v.k]
theorem moved_rch (g : Nat → IV) (n i cN nb : Nat) (w : World) (F : Fmd g n) (hi : i < n) (hw : way g n i = true) (hok : (g i).ok) (hrow : RowAt w nb (intRow n (nowF g n)) 3) :
    Calls Try.prog 44 #[flV (g i) i, .slice (some ⟨nb, 0, none⟩) n cN] w fun e w' => e = .returned (mvA (mv g n i)) ∧ Below w.heap.size w w' := by
  have hN := nowF_le g n F.le
  have hc := nowF_at hi hw
  have ht := hok.2.1
  have hf := hok.2.2.1
  cases h13 : (kd (g i) == 13)
  · cases hbr : (kd (g i) == 25 || kd (g i) == 26 || kd (g i) == 27 || kd (g i) == 28)
    · have e : mv g n i = g i := by
        unfold mv isBr
        rw [if_neg (by simpa using h13), hbr]; rfl
      rw [e]
      exact movedN_any _ _ _ _ _ i n cN nb w h13 hbr
    · have hr : isRet (g i) = false := by
        unfold isRet
        revert hbr
        cases h14 : (kd (g i) == 14)
        · cases h15 : (kd (g i) == 15)
          · intro _; rfl
          · have := beq_iff_eq.1 h15; rw [this]; intro h; cases h
        · have := beq_iff_eq.1 h14; rw [this]; intro h; cases h
      have hfs : fars (g i) = [(g i).t, (g i).f] := by
        unfold fars isBr
        rw [hr, if_neg (by decide), if_neg (by simpa using h13), hbr]; rfl
      obtain ⟨a1, a2, a3, a4⟩ := far_facts (f := (g i).t) F hi hw (by rw [hfs]; simp)
      obtain ⟨b1, b2, b3, b4⟩ := far_facts (f := (g i).f) F hi hw (by rw [hfs]; simp)
      have h := movedB_any (g i).c (g i).t (g i).f (g i).k (kd (g i)) i n cN nb (nowF g n) w F.le hN hi a1 b1 ht hf (by rw [hc, a2]; exact a3) (by rw [hc, b2]; exact b3) (by rw [hc, a2]; omega) (by rw [hc, b2]; omega) hrow h13 hbr
      rw [hc, a2, b2] at h
      have e : mv g n i = ⟨(g i).c, cnt g n (i + 1 + (g i).t) - cnt g n i - 1, cnt g n (i + 1 + (g i).f) - cnt g n i - 1, (g i).k⟩ := by
        unfold mv isBr
        rw [if_neg (by simpa using h13), hbr]; rfl
      rw [e]
      exact h
  · have h13' : kd (g i) = 13 := beq_iff_eq.1 h13
    have hfs : fars (g i) = [(g i).k] := by
      unfold fars isRet
      rw [h13']; rfl
    obtain ⟨a1, a2, a3, a4⟩ := far_facts (f := (g i).k) F hi hw (by rw [hfs]; simp)
    have h := movedJ_any (g i).c (g i).t (g i).f (g i).k i n cN nb (nowF g n) w F.le hN hi a1 (by rw [hc, a2]; exact a3) hrow
    rw [hc, a2] at h
    have e : mv g n i = ⟨(g i).c, (g i).t, (g i).f, cnt g n (i + 1 + (g i).k) - cnt g n i - 1⟩ := by
      unfold mv
      rw [if_pos h13']
    rw [e]
    unfold flV
    rw [h13']
    exact h
/-- The moved ones of those met. -/
def mvp {g : Nat → IV} {n : Nat} (pre : List (Rch g n)) (j : Nat) : IV := match pre[j]? with
  | some x => mv g n x.1
  | none => ⟨0, 0, 0, 0⟩
theorem mvp_all (g : Nat → IV) (n : Nat) : mvp (rupto g n n (Nat.le_refl _)) = prn g n := rfl
theorem mvp_snoc {g : Nat → IV} {n : Nat} (pre : List (Rch g n)) (x : Rch g n) (i : Nat) (hi : i < (pre.length + 1) * 4) : catC (pre.length * 4) (icell (mvp pre)) (icell fun _ => mv g n x.1) i = icell (mvp (pre ++ [x])) i := by
  have e1 : mvp (pre ++ [x]) pre.length = mv g n x.1 := by unfold mvp; simp
  have e2 : ∀ j, j < pre.length → mvp (pre ++ [x]) j = mvp pre j := fun j hj => by unfold mvp; rw [List.getElem?_append_left hj]
  rw [← icell_cat (mvp (pre ++ [x])) pre.length i hi, e1]
  unfold catC
  split
  · rename_i h
    unfold icell
    rw [e2 (i / 4) (by omega)]
  · rfl
set_option maxRecDepth 100000 in
/-- One instruction more behind an own row. -/
theorem app_one (w : World) (base : Nat) (A : Option Addr) (k c : Nat) (F : Nat → Value) (v : IV) (hown : OwnC w base 27 4 A k c F) (hbase : base ≤ w.heap.size) (hk : k ≤ 100000) :
    ∃ A' c' w', (Builtin.append_ #[23, 23] 23 #[.slice A k c, .slice (some ⟨w.heap.size, 0, none⟩) 1 1]).run Try.prog (w.alloc (.cells #[.int .u16 v.c, .int .u8 v.t, .int .u8 v.f, .int .u32 v.k] 27)) = .ok (.slice A' (k + 1) c') w' ∧
      OwnC w' base 27 4 A' (k + 1) c' (catC (k * 4) F (icell fun _ => v)) ∧ (w.alloc (.cells #[.int .u16 v.c, .int .u8 v.t, .int .u8 v.f, .int .u32 v.k] 27)).grownBy w' (Value.slice A k c).ownBlock ∧ Below base w w' := by
  obtain ⟨i0, hi, hz0, hz1, hz2⟩ := info_parts infoI
  have hr := one_inst w v 27
  have hcat : ((List.range ((k + 1) * 4)).map (catC (k * 4) F (icell fun _ => v))) = ((List.range (k * 4)).map F) ++ ((List.range (1 * 4)).map (icell fun _ => v)) := by
    rw [Nat.add_mul, List.range_add, List.map_append, List.map_map]
    congr 1
    · exact List.map_congr_left (fun i hi => by simp [catC, List.mem_range.1 hi])
    · exact List.map_congr_left (fun i _ => by show catC (k * 4) F (icell fun _ => v) (k * 4 + i) = icell (fun _ => v) i; unfold catC; rw [if_neg (by omega), Nat.add_sub_cancel_left])
  obtain ⟨bb, off, eA, _, hc⟩ := hr.at_ (by decide)
  obtain ⟨rfl, rfl⟩ : bb = w.heap.size ∧ off = 0 := by injection eA with e; injection e with e1 e2; exact ⟨e1.symm, e2.symm⟩
  obtain ⟨v', w', hrun, hown', hgrow, _, _⟩ := run_append_own_at (P := Try.prog) (w := w.alloc (.cells #[.int .u16 v.c, .int .u8 v.t, .int .u8 v.f, .int .u32 v.k] 27)) base 23 23 27 i0 _ 4 8 Try.underlying23 hi hz0 hz1 hz2 rfl (by decide) (.slice A k c) k _ (hown.alloc _)
    ⟨w.heap.size, 0, none⟩ 1 1 ((List.range (1 * 4)).map (icell fun _ => v)) (by simp) (fun j u hu => by
      have hj : j < 1 * 4 := by
        rcases Nat.lt_or_ge j (1 * 4) with h | h
        · exact h
        · rw [List.getElem?_eq_none (by simpa using h)] at hu; cases hu
      rw [Go.WideShapes.add_plain]
      refine (hc j hj).trans ?_
      rw [← hu]
      simp only [List.getElem?_map, List.getElem?_range hj, Option.map_some]) (fun u hu => by
      obtain ⟨i, _, rfl⟩ := List.mem_map.1 hu
      exact icell_one _ i) (by unfold maxLen; omega) (by omega) (by simp; omega)
  have hb : Below base (w.alloc (.cells #[.int .u16 v.c, .int .u8 v.t, .int .u8 v.f, .int .u32 v.k] 27)) w' := (Below.refl _ _).grown hgrow (by simp; omega) (fun j hj => (World.ownsRow.lt hown j hj).1)
  rw [← hcat] at hown'
  rcases ownsRow_parts hown' with ⟨A', c', rfl⟩
  exact ⟨A', c', w', hrun, hown', hgrow, ((Below.refl base w).alloc hbase _).trans hb⟩
end Go.Proofs.Ytjblkkffdhaiiab
