/-
  Layer 15: slices.Compact at conditions that lie inside a greater block: what lies beside them is kept; clear, with what is there behind it.
-/
import Derived.Test.YtccklmleaffgiaaGreatDoorCap
namespace Go.Proofs.YtccklmleaffgiaaGreatDoor
open Go.RowKit Go.Shelf Go.Lib Go.Sort
set_option linter.unusedVariables false

/-- A block of its type and size. -/
def TyZ (w : World) (b : Nat) (T : TypeId) (N : Nat) : Prop := ∃ cs, RowC w b cs T ∧ cs.size = N
theorem TyZ.ty {w : World} {b N : Nat} {T : TypeId} (h : TyZ w b T N) : TyAt w b T := by
  obtain ⟨cs, h, _⟩ := h
  exact ⟨cs, _, h⟩
theorem TyZ.set {w : World} {b N : Nat} {T : TypeId} (h : TyZ w b T N) (i : Nat) (v : Value) : TyZ (w.setCell ⟨b, i, none⟩ v) b T N := by
  obtain ⟨cs, h, hN⟩ := h
  exact ⟨_, h.set i v, by simp [hN]⟩
theorem TyZ.sets {b N : Nat} {T : TypeId} : ∀ (vs : List Value) (o : Nat) (w : World), TyZ w b T N → TyZ (w.setCells b o vs) b T N
  | [], _, _, h => h
  | v :: r, o, w, h => TyZ.sets r (o + 1) _ (h.set o v)
theorem TyZ.map {w : World} {b N : Nat} {T : TypeId} (h : TyZ w b T N) (f : Array Value → Array Value) (hf : ∀ a, (f a).size = a.size) : TyZ (mapBlock w b f) b T N := by
  obtain ⟨cs, h, hN⟩ := h
  refine ⟨f cs, ?_, by rw [hf, hN]⟩
  obtain ⟨h1, h2⟩ := Array.getElem?_eq_some_iff.1 h
  unfold RowC mapBlock
  simp only
  rw [Array.getElem?_eq_getElem (by simpa using h1), Array.getElem_modify, if_pos rfl, h2]
  rfl
theorem TyZ.grow {w : World} {b N : Nat} {T : TypeId} (h : TyZ w b T N) (os : Array Obj) : TyZ (grow w os) b T N := by
  obtain ⟨cs, h, hN⟩ := h
  refine ⟨cs, Eq.trans ?_ h, hN⟩
  unfold Sort.grow
  simp only
  exact Array.getElem?_append_left h.lt
theorem TyZ.sorted {w : World} {b N : Nat} {T : TypeId} (h : TyZ w b T N) (off n : Nat) (d : Array CV) (os : Array Obj) : TyZ (sortWorldK encC 4 w b off n d os) b T N :=
  TyZ.grow (TyZ.map (w := Sort.ahead w n) h _ fun a => by simp [putCells]) os
theorem TyZ.frozen {w : World} {b N : Nat} {T : TypeId} (h : TyZ w b T N) (i : Nat) : w.frozen? ⟨b, i, none⟩ = false := by
  obtain ⟨cs, h, _⟩ := h
  exact h.frozen i
theorem TyZ.is {w : World} {b N : Nat} {T : TypeId} (h : TyZ w b T N) (i : Nat) (hi : i < N) : (w.cell? ⟨b, i, none⟩).isSome = true := by
  obtain ⟨cs, h, hN⟩ := h
  rw [h.cell i (cs[i]'(by omega)) (Array.getElem?_eq_getElem _)]
  rfl
/-- A block of its type and size, kept beside a part of it. -/
def TyO (w : World) (blk lo hi : Nat) (T : TypeId) (N : Nat) (wr : World) : Prop := TyZ wr blk T N ∧ ∀ i, i < lo ∨ hi ≤ i → wr.cell? ⟨blk, i, none⟩ = w.cell? ⟨blk, i, none⟩
theorem TyO.start {w : World} {blk lo hi N : Nat} {T : TypeId} (h : TyZ w blk T N) : TyO w blk lo hi T N w := ⟨h, fun _ _ => rfl⟩
theorem TyO.sets {w wr : World} {blk lo hi N : Nat} {T : TypeId} (h : TyO w blk lo hi T N wr) (vs : List Value) (o : Nat) (ho : lo ≤ o ∧ o + vs.length ≤ hi) : TyO w blk lo hi T N (wr.setCells blk o vs) :=
  ⟨TyZ.sets _ _ _ h.1, fun i hi => (World.cell?_setCells_out blk vs o wr ⟨blk, i, none⟩ (fun _ _ => by show i < o ∨ o + vs.length ≤ i; omega)).trans (h.2 i hi)⟩
theorem TyO.set {w wr : World} {blk lo hi N : Nat} {T : TypeId} (h : TyO w blk lo hi T N wr) (o : Nat) (v : Value) (ho : lo ≤ o ∧ o + 1 ≤ hi) : TyO w blk lo hi T N (wr.setCell ⟨blk, o, none⟩ v) := h.sets [v] o ho
theorem TyO.trans {w1 w2 w3 : World} {b lo hi N : Nat} {T : TypeId} (h : TyO w1 b lo hi T N w2) (h2 : TyO w2 b lo hi T N w3) : TyO w1 b lo hi T N w3 := ⟨h2.1, fun i hi => (h2.2 i hi).trans (h.2 i hi)⟩
set_option maxHeartbeats 8000000 in
set_option maxRecDepth 1000000 in
theorem compactW_any (blk off cap : Nat) (d : Array CV) (w : World) (hH : HoldsK encC 4 w blk off d) (hblk : blk < w.heap.size) (hsz : d.size ≤ 12) (hcap : d.size ≤ cap) (hcm : cap ≤ maxLen) (T : TypeId) (N : Nat) (hT : TyZ w blk T N) :
    Calls Tryz.prog 91 #[.slice (some ⟨blk, off, none⟩) d.size cap] w fun e w' => e = .returned (.slice (some ⟨blk, off, none⟩) (compactUpTo d d.size).length cap) ∧ Below blk w w' ∧ TyO w blk off (off + d.size * 4) T N w' ∧ Heads w' blk off (compactUpTo d d.size) := by
  obtain ⟨n, hn⟩ : ∃ n, d.size = n := ⟨_, rfl⟩
  have HH := Lib.hid hH
  have HT := Lib.hid (TyO.start (lo := off) (hi := off + d.size * 4) hT)
  have HN := Lib.hid hn
  rw [hn] at hsz hcap HT ⊢
  by_cases h2 : n < 2
  · clear hH hn hblk hcm hT
    go_enter Tryz.func91, Tryz.ntmps91
    go_wp2
    go_ret
    have := heads_all HH.out (fun j hj => keeps_lt_one d j (by have := HN.out; omega))
    rw [HN.out] at this
    exact ⟨by rw [this.1]; try rfl, Below.refl _ _, HT.out, this.2⟩
  · clear hH hn hT
    go_enter Tryz.func91, Tryz.ntmps91
    go_wp2
    go_loopg [3] n (fun g s3 wr => ∃ k : Nat, 1 ≤ k ∧ k ≤ n ∧ n - k ≤ g ∧ s3 = .int .i64 k ∧ Hid (HoldsK encC 4 wr blk off d ∧ Below blk w wr ∧ TyO w blk off (off + n * 4) T N wr ∧ ∀ j, j < k → keeps d j = true))
    case atStart => exact ⟨1, Nat.le_refl _, by omega, by omega, rfl, Lib.hid ⟨HH.out, Below.refl _ _, HT.out, keeps_lt_one d⟩⟩
    case round =>
      obtain ⟨k, hk1, hk, hg, rfl, HI⟩ := hrel
      by_cases hlt : k < n
      · obtain ⟨x, hx⟩ : ∃ x, d[k]! = x := ⟨_, rfl⟩
        obtain ⟨y, hy⟩ : ∃ y, d[k - 1]! = y := ⟨_, rfl⟩
        obtain ⟨c0, c1, c2, c3⟩ := HoldsK.four HI.out.1 (i := k) (by rw [HN.out]; exact hlt) hx
        obtain ⟨b0, b1, b2, b3⟩ := HoldsK.four HI.out.1 (i := k - 1) (by rw [HN.out]; omega) hy
        have HB := Lib.hid (And.intro hx hy)
        have hcs := cv_cases x y
        have HE : Hid (x = y ∨ x ≠ y) := Lib.hid (Classical.em _)
        clear hx hy
        have i1 : (0 : Int) ≤ (k : Int) := by omega
        have i2 : (k : Int) < (n : Int) := by omega
        by_cases hdup : x = y
        · subst hdup
          clear hcs
          obtain ⟨a, o, m, v⟩ := x
          simp only at c0 c1 c2 c3 b0 b1 b2 b3
          go_wp2_with fail
          go_quiet (fail)
          have hck : ¬ cap = k := by omega
          go_wp2
          clear c0 c1 c2 c3 b0 b1 b2 b3
          go_loopg [3, 5] n (fun g s3 s5 wr => ∃ (kk k2 : Nat) (dk : Array CV), s3 = .int .i64 kk ∧ s5 = .int .i64 k2 ∧ 1 ≤ k2 ∧ k + k2 ≤ n ∧ n - (k + k2) ≤ g ∧ Hid (HoldsK encC 4 wr blk off dk ∧ Below blk w wr ∧ TyO w blk off (off + n * 4) T N wr ∧ CompInv d (k + k2) kk dk))
          case atStart => exact ⟨k, 1, d, rfl, rfl, Nat.le_refl _, by omega, by omega, Lib.hid ⟨HI.out.1, bdn HI.out.2.1 nq, HI.out.2.2.1, CompInv.start HI.out.2.2.2 (keeps_neg (by omega) (by rw [HB.out.1, HB.out.2]))⟩⟩
          case round =>
            obtain ⟨kk, k2, dk, rfl, rfl, h1, hle, hg2, HJ⟩ := hrel
            have hkk : kk < k + k2 := HJ.out.2.2.2.lt
            by_cases hlt2 : k + k2 < n
            · obtain ⟨u, hu⟩ : ∃ u, d[k + k2]! = u := ⟨_, rfl⟩
              obtain ⟨t, ht⟩ : ∃ t, d[k + k2 - 1]! = t := ⟨_, rfl⟩
              have hsd : dk.size = n := by rw [HJ.out.2.2.2.size, HN.out]
              obtain ⟨c0, c1, c2, c3⟩ := HoldsK.four HJ.out.1 (i := k + k2) (by omega) ((HJ.out.2.2.2.high (k + k2) (by omega)).trans hu)
              obtain ⟨b0, b1, b2, b3⟩ := HoldsK.four HJ.out.1 (i := k + k2 - 1) (by omega) ((HJ.out.2.2.2.high (k + k2 - 1) (by omega)).trans ht)
              obtain ⟨p0, p1, p2, p3⟩ := HoldsK.four HJ.out.1 (i := kk) (by omega) rfl
              obtain ⟨f0, f1, f2, f3⟩ := HoldsK.cold HJ.out.1 (i := kk) (by omega)
              generalize dk[kk]! = old at p0 p1 p2 p3
              have HC := Lib.hid (And.intro hu ht)
              have HSD := Lib.hid hsd
              clear hu ht hsd
              rw [show off + (k + k2) * 4 = off + k * 4 + k2 * 4 by omega] at c0 c1 c2 c3
              rw [show off + (k + k2 - 1) * 4 = off + k * 4 + (k2 - 1) * 4 by omega] at b0 b1 b2 b3
              have j1 : (0 : Int) ≤ (k2 : Int) := by omega
              have hcs := cv_cases u t
              by_cases huv : u = t
              · subst huv
                clear hcs
                obtain ⟨a1, o1, m1, v1⟩ := u
                simp only at c0 c1 c2 c3 b0 b1 b2 b3
                go_wp2_with fail
                go_quiet (fail)
                go_wp2
                go_roundg (n - (k + (k2 + 1)))
                case measure => omega
                case rel => exact ⟨kk, k2 + 1, dk, rfl, by go_num, by omega, by omega, Nat.le_refl _, Lib.hid ⟨HJ.out.1, bdn HJ.out.2.1 nq, HJ.out.2.2.1, HJ.out.2.2.2.skip (keeps_neg (by omega) (by rw [HC.out.1, HC.out.2]))⟩⟩
              · have HNE := Lib.hid huv
                rcases hcs with h | h | ⟨h', h⟩ | ⟨h', h'', h⟩ | ⟨h', h'', h''', h⟩
                · exact absurd h huv
                all_goals
                  obtain ⟨a1, o1, m1, v1⟩ := u
                  obtain ⟨a2, o2, m2, v2⟩ := t
                  simp only at c0 c1 c2 c3 b0 b1 b2 b3
                  simp only at h
                  (try simp only at h')
                  (try simp only at h'')
                  (try simp only at h''')
                  (try subst h')
                  (try subst h'')
                  (try subst h''')
                  clear huv
                  go_wp2_with fail
                  go_quiet (fail)
                  go_wp2
                  go_roundg (n - (k + (k2 + 1)))
                  case measure => omega
                  case rel => exact ⟨kk + 1, k2 + 1, dk.setIfInBounds kk (a1, o1, m1, v1), by go_num, by go_num, by omega, by omega, Nat.le_refl _, Lib.hid ⟨HoldsK.put (W := wr.drewN nq) HJ.out.1 (by rw [HSD.out]; omega) (a1, o1, m1, v1), ((((bdn HJ.out.2.1 nq).setCell (Nat.le_refl _) _).setCell (Nat.le_refl _) _).setCell (Nat.le_refl _) _).setCell (Nat.le_refl _) _, ((((show TyO w blk off (off + n * 4) T N (wr.drewN nq) from HJ.out.2.2.1).set _ _ (by omega)).set _ _ (by omega)).set _ _ (by omega)).set _ _ (by omega), by
                    have := HJ.out.2.2.2.keep (by rw [HN.out]; exact hlt2) (keeps_pos (by rw [HC.out.1, HC.out.2]; exact HNE.out))
                    rwa [HC.out.1] at this⟩⟩
            · have hend : k + k2 = n := by omega
              have hsd : dk.size = n := by rw [HJ.out.2.2.2.size, HN.out]
              have hcl := fun ty => clearC blk (off + kk * 4) (n - kk) (cap - kk) wr ty (by omega) (fun j hj => by
                have := HJ.out.1 (kk * 4 + j) (by rw [size_flatK, hsd]; omega)
                rw [← Nat.add_assoc] at this
                exact ⟨by rw [this.1, Option.isSome_some], this.2⟩)
              have HSD := Lib.hid hsd
              have HEN := Lib.hid hend
              clear hsd hend
              obtain ⟨Z, hZ, hZr⟩ : ∃ Z : List Value, Z.length = (n - kk) * 4 ∧ ∀ ty, (Builtin.clear_ #[48] ty #[.slice (some ⟨blk, off + kk * 4, none⟩) (n - kk) (cap - kk)]).run Tryz.prog wr = .ok (.tuple #[]) (wr.setCells blk (off + kk * 4) Z) := by
                obtain ⟨Z, h1, h2⟩ := hcl 0
                exact ⟨Z, h1, fun ty => h2⟩
              have HZ := Lib.hid hZ
              clear hcl hZ
              have hck2 : ¬ cap = kk := by omega
              have g1 : ¬ (k2 : Int) < ((n - k : Nat) : Int) := by omega
              go_wp2
              go_ret
              have hl := HJ.out.2.2.2.len
              have hE := HEN.out
              rw [hE] at hl
              refine ⟨by rw [hl]; try rfl, below_setCellsC (Nat.le_refl _) _ _ _ HJ.out.2.1, TyO.sets HJ.out.2.2.1 _ _ (by have := HZ.out; omega), fun j hj => ?_⟩
              rw [hl] at hj
              have hlow := HJ.out.2.2.2.low j hj
              rw [hE] at hlow
              have hv : (compactUpTo d n)[j]! = dk[j]! := by rw [getElem!_pos (compactUpTo d n) j (by rw [hl]; exact hj)]; have := hlow; rw [List.getElem?_eq_getElem (by rw [hl]; exact hj)] at this; exact Option.some.inj this
              rw [hv]
              have hS := HSD.out
              have h4 := HoldsK.four HJ.out.1 (i := j) (by omega) rfl
              have ho : ∀ c, c < 4 → (wr.setCells blk (off + kk * 4) Z).cell? ⟨blk, off + j * 4 + c, none⟩ = wr.cell? ⟨blk, off + j * 4 + c, none⟩ := fun c hc => World.cell?_setCells_out blk Z _ wr _ (fun _ _ => .inl (by show off + j * 4 + c < off + kk * 4; omega))
              exact ⟨(ho 0 (by decide)).trans h4.1, (ho 1 (by decide)).trans h4.2.1, (ho 2 (by decide)).trans h4.2.2.1, (ho 3 (by decide)).trans h4.2.2.2⟩
        · have HNE := Lib.hid hdup
          rcases hcs with h | h | ⟨h', h⟩ | ⟨h', h'', h⟩ | ⟨h', h'', h''', h⟩
          · exact absurd h hdup
          all_goals
            obtain ⟨a1, o1, m1, v1⟩ := x
            obtain ⟨a2, o2, m2, v2⟩ := y
            simp only at c0 c1 c2 c3 b0 b1 b2 b3
            simp only at h
            (try simp only at h')
            (try simp only at h'')
            (try simp only at h''')
            (try subst h')
            (try subst h'')
            (try subst h''')
            clear hdup
            go_wp2_with fail
            go_quiet (fail)
            go_wp2
            go_roundg (n - (k + 1))
            case measure => omega
            case rel =>
              refine ⟨k + 1, by omega, by omega, Nat.le_refl _, by go_num, Lib.hid ⟨HI.out.1, bdn HI.out.2.1 nq, HI.out.2.2.1, fun j hj => ?_⟩⟩
              by_cases e : j = k
              · subst e
                exact keeps_pos (by rw [HB.out.1, HB.out.2]; exact HNE.out)
              · exact HI.out.2.2.2 j (by omega)
      · have : k = n := by omega
        subst this
        go_wp2
        go_ret
        have hN := HN.out
        have := heads_all HI.out.1 (fun j hj => HI.out.2.2.2 j (by omega))
        rw [hN] at this
        exact ⟨by rw [this.1]; try rfl, HI.out.2.1, HI.out.2.2.1, this.2⟩

theorem clearW (blk o n c : Nat) (w : World) (ty : TypeId) (hn : 0 < n) (hc : ∀ j, j < n * 4 → (w.cell? ⟨blk, o + j, none⟩).isSome = true ∧ w.frozen? ⟨blk, o + j, none⟩ = false) :
    (Builtin.clear_ #[48] ty #[.slice (some ⟨blk, o, none⟩) n c]).run Tryz.prog w = .ok (.tuple #[]) (w.setCells blk o (Builtin.zeroCells zN n).toList) := by
  have hst := run_storeCells_cells (P := Tryz.prog) blk o (Builtin.zeroCells zN n).toList 0 w (fun j hj => by rw [Nat.add_zero]; exact (hc j (by simpa [Builtin.zeroCells] using hj)).1) (fun j hj => by rw [Nat.add_zero]; exact (hc j (by simpa [Builtin.zeroCells] using hj)).2) (by
    intro v hv
    simp only [Builtin.zeroCells, Array.toList_map, List.mem_map] at hv
    obtain ⟨i, _, rfl⟩ := hv
    have h : i % zN.size = 0 ∨ i % zN.size = 1 ∨ i % zN.size = 2 ∨ i % zN.size = 3 := by
      have : i % zN.size < 4 := Nat.mod_lt _ (by decide)
      omega
    rcases h with h | h | h | h <;> rw [h] <;> rfl)
  simp only [Nat.add_zero] at hst
  obtain ⟨m, rfl⟩ : ∃ m, n = m + 1 := ⟨n - 1, by omega⟩
  have hcl : (Value.agg zN).cells = zN := rfl
  simp [Builtin.clear_, run_underlying Tryz.underlying48, hcl, hst]
theorem zeros_len (n : Nat) : (Builtin.zeroCells zN n).toList.length = n * 4 := by simp [Builtin.zeroCells]
theorem zeros_at (n j c : Nat) (hj : j < n) (hc : c < 4) (h : j * 4 + c < (Builtin.zeroCells zN n).toList.length) : (Builtin.zeroCells zN n).toList[j * 4 + c] = (zN.toList.getD c undef) := by
  simp only [Builtin.zeroCells, Array.toList_map, List.getElem_map]
  have h0 : c = 0 ∨ c = 1 ∨ c = 2 ∨ c = 3 := by omega
  simp
  rcases h0 with rfl | rfl | rfl | rfl <;> rfl
end Go.Proofs.YtccklmleaffgiaaGreatDoor
