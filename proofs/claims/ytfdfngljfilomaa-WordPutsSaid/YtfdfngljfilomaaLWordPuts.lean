/-
  The statement of WordPuts is proved: for every bytes, every place, width and way round, and every number the law returns true. No condition.
-/
import Derived.Test.YtfdfngljfilomaaRows
import Derived.Test.YtfdfngljfilomaaWd
import Derived.Test.YtfdfngljfilomaaWe
import Derived.WalkKit
import Derived.ProofKit
import Derived.OpenShut
import Derived.ShutString
import Derived.ChangeOld
import Derived.Below
import Derived.Lib.SmallJoins
import Derived.Deep.RegionHeld3
namespace Go.Proofs.Ytfdfngljfilomaa
open Go.RowKit

theorem size_box2 (w : World) (o : Obj) : (w.alloc o).heap.size = w.heap.size + 1 := by simp

set_option maxHeartbeats 2000000 in
theorem puts_long (A : Option Addr) (n c : Nat) (f : Nat → Nat) (p wd x : Int) (big : Bool) (w : World) (hr : Byt w w.heap.size A n c f) (h : 200 < n) :
    Calls Try.prog 4 #[.slice A n c, .agg #[.int .i64 p, .int .i64 wd, .bool big], .int .u64 x] w fun e w' => e = .returned (.bool true) ∧ Below w.heap.size w w' := by
  have hmx := hr.le
  unfold maxLen at hmx
  obtain ⟨h1, h2⟩ := hmx
  go_enter Try.func4, Try.ntmps4
  go_wp2
  go_ret
  exact ⟨rfl, (Below.refl _ _).alloc (Nat.le_refl _) _⟩

theorem alike_self (f g : Nat → Nat) (n : Nat) (h : ∀ i, i < n → f i = g i) : (n == n && alike f g n) = true := by
  simp [(alike_iff f g n).2 h]
theorem Own_.drew {w : World} {base n c : Nat} {E : TypeId} {A : Option Addr} {g : Nat → Nat} (h : Own_ w base E A n c g) : Own_ w.drew base E A n c g := h
theorem Byt.drew {w : World} {B n c : Nat} {A : Option Addr} {g : Nat → Nat} (h : Byt w B A n c g) : Byt w.drew B A n c g := h
/-- The same as a step of a region that draws its order, the length and the bytes told anew. -/
theorem step_bytes2 {P : Program} {w : World} {ops : Array Oper} {o : Oper} {a : Act} {K : Act → World → Prop} {Q : Exit → Act → World → Prop} {R : Prop} (hgd : o.guard = none) (s x : Operand) (t E : TypeId)
    (ho : o.op = .call { callee := .builtin .append, args := #[s, x], argTypes := #[t, t] })
    (ht : P.underlying t = some (.slice E)) (hinfo : (P.info? E).map (fun i => (i.zero, i.size, i.bytes)) = some (some (.int .u8 0), 1, 1))
    {base n c m d : Nat} {A C : Option Addr} {f g : Nat → Nat} (hs : a.eval s = .slice A n c) (hown : Own_ w base E A n c f) (hx : a.eval x = .slice C m d) {B : Nat} (hr : Byt w B C m d g)
    (hn : n + m ≤ 140737488355328) (hbase : base ≤ w.heap.size) (N : Nat) (hN : n + m = N) (G : Nat → Nat) (hG : ∀ i, i < N → cat n f g i = G i)
    (h : ∀ A' c' w', Own_ w' base E A' N c' G → Below base w w' → K (a.put o.dst (.slice A' N c')) w') :
    if Region.wanted o (yielded ops a.tmps) = true then Oper.wp P o a w K Q else R := by
  subst hN
  exact step_bytes hgd s x t E ho ht hinfo hs hown hx hr hn hbase fun A' c' w' h1 _ h3 => h A' c' w' (h1.congr hG) h3
theorem byt_none (w : World) (B b off : Nat) (f : Nat → Nat) : Byt w B (some ⟨b, off, none⟩) 0 0 f := .inr ⟨_, rfl, Nat.le_refl _, Nat.zero_le _, fun i hi => by omega⟩
theorem cat_zero (f g : Nat → Nat) (i : Nat) : cat 0 f g i = g i := by simp [cat]
theorem cat_eq (n : Nat) (f f' g : Nat → Nat) (i : Nat) (h : ∀ i, i < n → f i = f' i) : cat n f g i = cat n f' g i := by
  unfold cat; split
  · exact h i (by assumption)
  · rfl
/-- An empty row of the call's own. -/
theorem own_empty (w : World) (E : TypeId) (f : Nat → Nat) (H : Nat) (hH : w.heap.size = H) : Own_ (w.alloc (.cells #[] E)) H E (some ⟨H, 0, none⟩) 0 0 f := by
  subst hH
  exact ⟨by simpa using World.ownsRow_lit (base := w.heap.size) (e := E) (size := 1) w #[] 0 (Nat.le_refl _) (by decide) rfl, fun i h => by omega⟩

set_option maxRecDepth 100000 in
set_option maxHeartbeats 4000000 in
theorem puts_err (A : Option Addr) (n c : Nat) (f : Nat → Nat) (p wd x : Int) (big : Bool) (w : World) (hr : Byt w w.heap.size A n c f) (h : n ≤ 200) (ha : -9223372036854775808 ≤ p) (hb : p ≤ 9223372036854775807) (hf : flt n p wd ≠ 0) :
    Calls Try.prog 4 #[.slice A n c, .agg #[.int .i64 p, .int .i64 wd, .bool big], .int .u64 x] w fun e w' => e = .returned (.bool true) ∧ Below w.heap.size w w' := by
  have hmx := hr.le
  unfold maxLen at hmx
  obtain ⟨h1, h2⟩ := hmx
  have HG := Lib.hid (fun W => put_err big A n c p wd x W (by unfold maxLen; omega) ha hb hf)
  have HV := Lib.hid (fun W => wrong_any n p wd W (by omega) (by omega) ha hb)
  have ht : (flt n p wd != 0) = true := by simpa using hf
  go_enter Try.func4, Try.ntmps4
  go_wp2_with (
    at_builtin
    refine app_bytes _ rfl _ _ _ 5 rfl Try.underlying22 infoB rfl (own_empty _ _ f (w.heap.size + 1) (by simp)) rfl (hr.below (((Below.refl _ _).alloc (Nat.le_refl _) _).alloc (by simp) _)) (by omega) (by simp) ?_
    rintro A2 c2 w2 hown2 hg2 hB2
    rw [Nat.zero_add] at hown2
    have hown3 := hown2.congr (g := f) (fun i _ => by simp [cat])
    have hs2 : w.heap.size + 1 ≤ w2.heap.size := by have := hB2.size; simp at this; omega
    have hbx : Below w.heap.size w w2 := (((Below.refl _ w).alloc (Nat.le_refl _) _).alloc (by simp) _).trans (hB2.mono (by omega))
    have x0 : w2.cell? ⟨w.heap.size, 0, none⟩ = some (.int .i64 p) := (hB2.cell (p := ⟨w.heap.size, 0, none⟩) (by show w.heap.size < _; omega)).trans (by simp)
    have x1 : w2.cell? ⟨w.heap.size, 1, none⟩ = some (.int .i64 wd) := (hB2.cell (p := ⟨w.heap.size, 1, none⟩) (by show w.heap.size < _; omega)).trans (by simp)
    have x2 : w2.cell? ⟨w.heap.size, 2, none⟩ = some (.bool big) := (hB2.cell (p := ⟨w.heap.size, 2, none⟩) (by show w.heap.size < _; omega)).trans (by simp)
    clear hown2 hg2 hB2)
  go_wp2_with fail
  refine (HG.out _).mono ?_
  rintro e w3 ⟨rfl, hB3⟩
  have hs3 := hB3.size
  have hb3 := hbx.trans (hB3.mono hbx.size)
  have y0 := (hB3.cell (p := ⟨w.heap.size, 0, none⟩) (by show w.heap.size < _; omega)).trans x0
  have y1 := (hB3.cell (p := ⟨w.heap.size, 1, none⟩) (by show w.heap.size < _; omega)).trans x1
  go_wp2_with fail
  refine (same_any _ _ _ _ _ _ f f _ ((hr.below hb3).more hb3.size) ((hown3.byt.below hB3).more hs3)).mono ?_
  rw [alike_self f f n (fun _ _ => rfl)]
  rintro e w4 ⟨rfl, hB4⟩
  have hs4 := hB4.size
  have hb4 := hb3.trans (hB4.mono hb3.size)
  have z0 := (hB4.cell (p := ⟨w.heap.size, 0, none⟩) (by show w.heap.size < _; omega)).trans y0
  have z1 := (hB4.cell (p := ⟨w.heap.size, 1, none⟩) (by show w.heap.size < _; omega)).trans y1
  go_wp2_with fail
  refine (HV.out _).mono ?_
  rintro e w' ⟨rfl, rfl⟩
  go_wp2_with fail
  refine (awake_any _).mono ?_
  rintro e w5 ⟨rfl, hB5⟩
  go_wp2
  go_ret
  exact ⟨rfl, hb4.trans (hB5.mono hb4.size)⟩

theorem two_pow (i : Nat) : 2 ^ (8 * i) = 256 ^ i := by rw [Nat.pow_mul]
/-- What Put makes is what is joined of its three parts. -/
theorem put_cat (big : Bool) (p k x n : Nat) (f gP : Nat → Nat) (_hp : p + k ≤ n) (hg : ∀ i, i < k → gP i = x / 256 ^ (if big then k - 1 - i else i) % 256) :
    ∀ i, i < n → putF big p k x f i = cat (p + k) (cat p f gP) (fun j => f (p + k + j)) i := fun i hi => by
  unfold putF cat
  by_cases h1 : i < p
  · rw [if_neg (by omega), if_pos (by omega), if_pos h1]
  · by_cases h2 : i < p + k
    · rw [if_pos ⟨by omega, h2⟩, if_pos h2, if_neg h1, hg _ (by omega), two_pow]
      unfold idx
      cases big
      · rfl
      · simp only [if_true]; rw [show p + k - 1 - i = k - 1 - (i - p) from by omega]
    · rw [if_neg (by omega), if_neg h2]; show f i = f (p + k + (i - (p + k))); rw [show p + k + (i - (p + k)) = i from by omega]

set_option maxRecDepth 100000 in
set_option maxHeartbeats 4000000 in
theorem puts_ok (big : Bool) (b off n c : Nat) (f : Nat → Nat) (p k x : Nat) (w : World) (hb : b < w.heap.size) (hc : ∀ i, i < n → w.cell? ⟨b, off + i, none⟩ = some (bv (f i)) ∧ f i < 256) (hnc : n ≤ c) (hcm : c ≤ maxLen) (h : n ≤ 200) (hk : k = 1 ∨ k = 2 ∨ k = 4 ∨ k = 8) (hp : p + k ≤ n) (hx : x < 18446744073709551616) :
    Calls Try.prog 4 #[.slice (some ⟨b, off, none⟩) n c, .agg #[.int .i64 p, .int .i64 k, .bool big], .int .u64 x] w fun e w' => e = .returned (.bool true) ∧ Below w.heap.size w w' := by
  have hr : Byt w w.heap.size (some ⟨b, off, none⟩) n c f := Byt.mk_ hb hnc hcm hc
  have hk8 : k ≤ 8 := by omega
  have hk0 : 0 < k := by omega
  have hcp : p < c := by omega
  unfold maxLen at hcm
  have hf0 : flt n p k = 0 := by unfold flt; rw [if_pos (by omega), if_neg (by omega)]
  have HG := Lib.hid (fun (W : World) (hB : Below w.heap.size w W) => put_ok big (some ⟨b, off, none⟩) n c p k x f W (by omega) hk hp hx ((hr.below hB).more hB.size))
  have HV := Lib.hid (fun W => hf0 ▸ wrong_any n p k W (by omega) (by omega) (by omega) (by omega))
  have HP := Lib.hid (fun (gP : Nat → Nat) => put_cat big p k x n f gP hp)
  have HX := Lib.hid hx
  clear hk hc hf0 hx
  go_enter Try.func4, Try.ntmps4
  go_wp2_with (
    at_builtin
    refine app_bytes _ rfl _ _ _ 5 rfl Try.underlying22 infoB rfl (own_empty _ _ f (w.heap.size + 1) (by simp)) rfl (hr.below (((Below.refl _ _).alloc (Nat.le_refl _) _).alloc (by simp) _)) (by omega) (by simp) ?_
    rintro A2 c2 w2 hown2 hg2 hB2
    rw [Nat.zero_add] at hown2
    have hown3 := hown2.congr (g := f) (fun i _ => by simp [cat])
    have hs2 : w.heap.size + 1 ≤ w2.heap.size := by have := hB2.size; simp at this; omega
    have hbx : Below w.heap.size w w2 := (((Below.refl _ w).alloc (Nat.le_refl _) _).alloc (by simp) _).trans (hB2.mono (by omega))
    have x0 : w2.cell? ⟨w.heap.size, 0, none⟩ = some (.int .i64 p) := (hB2.cell (p := ⟨w.heap.size, 0, none⟩) (by show w.heap.size < _; omega)).trans (by simp)
    have x1 : w2.cell? ⟨w.heap.size, 1, none⟩ = some (.int .i64 k) := (hB2.cell (p := ⟨w.heap.size, 1, none⟩) (by show w.heap.size < _; omega)).trans (by simp)
    have x2 : w2.cell? ⟨w.heap.size, 2, none⟩ = some (.bool big) := (hB2.cell (p := ⟨w.heap.size, 2, none⟩) (by show w.heap.size < _; omega)).trans (by simp)
    clear hown2 hg2 hB2)
  refine (HG.out _ hbx).mono ?_
  rintro e w3 ⟨A3, c3, rfl, hownO, hB3⟩
  have hs3 := hB3.size
  have hb3 := hbx.trans (hB3.mono hbx.size)
  have y0 := (hB3.cell (p := ⟨w.heap.size, 0, none⟩) (by show w.heap.size < _; omega)).trans x0
  have y1 := (hB3.cell (p := ⟨w.heap.size, 1, none⟩) (by show w.heap.size < _; omega)).trans x1
  have y2 := (hB3.cell (p := ⟨w.heap.size, 2, none⟩) (by show w.heap.size < _; omega)).trans x2
  have hwas3 := (hown3.byt.below hB3).more hs3
  have hout3 := hownO.byt
  clear x0 x1 x2 hown3 hownO
  go_wp2_with fail
  refine (same_any _ _ _ _ _ _ f f _ ((hr.below hb3).more hb3.size) hwas3).mono ?_
  rw [alike_self f f n (fun _ _ => rfl)]
  rintro e w4 ⟨rfl, hB4⟩
  have hs4 := hB4.size
  have hb4 := hb3.trans (hB4.mono hb3.size)
  have z0 := (hB4.cell (p := ⟨w.heap.size, 0, none⟩) (by show w.heap.size < _; omega)).trans y0
  have z1 := (hB4.cell (p := ⟨w.heap.size, 1, none⟩) (by show w.heap.size < _; omega)).trans y1
  have z2 := (hB4.cell (p := ⟨w.heap.size, 2, none⟩) (by show w.heap.size < _; omega)).trans y2
  have hwas4 := (hwas3.below hB4).more hs4
  have hout4 := (hout3.below hB4).more hs4
  clear y0 y1 y2 hwas3 hout3
  go_wp2_with fail
  refine (HV.out _).mono ?_
  rintro e w' ⟨rfl, rfl⟩
  go_wp2_with fail
  have hn0 : 0 < n := by omega
  have hcw := hwas4.le
  obtain ⟨gw, ow, rfl, hgw, _⟩ := hwas4.at_ hn0
  unfold maxLen at hcw
  obtain ⟨hcw1, hcw2⟩ := hcw
  have HN := Lib.hid hn0
  clear hn0
  rcases big with _ | _
  · refine (bytes_any x k _ HX.out (by omega)).mono ?_
    rintro e w6 ⟨A6, c6, rfl, hown6, hB6⟩
    have hs6 := hB6.size
    have hb6 := hb4.trans (hB6.mono hb4.size)
    have z0 := (hB6.cell (p := ⟨w.heap.size, 0, none⟩) (by show w.heap.size < _; omega)).trans z0
    have z1 := (hB6.cell (p := ⟨w.heap.size, 1, none⟩) (by show w.heap.size < _; omega)).trans z1
    have z2 := (hB6.cell (p := ⟨w.heap.size, 2, none⟩) (by show w.heap.size < _; omega)).trans z2
    have hwas6 := (hwas4.below hB6).more hs6
    have hout6 := (hout4.below hB6).more hs6
    have hpart6 := hown6.byt
    have hal := alike_self _ _ n (HP.out (fun i => x / 256 ^ i % 256) (fun i _ => rfl))
    have HA := Lib.hid hal
    clear hal hwas4 hout4 hown6 HP HX HG HV hr
    go_wp2_with fail
    have i0 : (0 : Int) ≤ (p : Int) := by omega
    have i1 : (p : Int) ≤ (c2 : Int) := by omega
    have i2 : (0 : Int) ≤ (p : Int) + (k : Int) := by omega
    have i3 : (p : Int) + (k : Int) ≤ (n : Int) := by omega
    have i4 : IntKind.i64.wrap ((p : Int) + (k : Int)) = (p : Int) + (k : Int) := IntWalk.i64_in _ (by omega)
    have i5 : ((p : Int) + (k : Int)).toNat = p + k := by omega
    have i6 : (0 : Int) ≤ (k : Int) := by omega
    have i7 : (p : Int) ≤ (p : Int) + (k : Int) := by omega
    by_cases hcc : c2 = p + k
    · subst hcc
      obtain rfl : n = p + k := by omega
      go_region_held3 (fun w' => w'.cell? ⟨w.heap.size, 0, none⟩ = some (.int .i64 p) ∧ w'.cell? ⟨w.heap.size, 1, none⟩ = some (.int .i64 k))
        (first
          | go_keep
          | exact ⟨(hK1.cell (p := ⟨w.heap.size, 0, none⟩) (by show w.heap.size < _; omega)).trans z0, (hK1.cell (p := ⟨w.heap.size, 1, none⟩) (by show w.heap.size < _; omega)).trans z1⟩
          | exact ⟨(hK2.cell (p := ⟨w.heap.size, 0, none⟩) (by show w.heap.size < _; omega)).trans z0, (hK2.cell (p := ⟨w.heap.size, 1, none⟩) (by show w.heap.size < _; omega)).trans z1⟩
          | exact ⟨(hK3.cell (p := ⟨w.heap.size, 0, none⟩) (by show w.heap.size < _; omega)).trans z0, (hK3.cell (p := ⟨w.heap.size, 1, none⟩) (by show w.heap.size < _; omega)).trans z1⟩)
        (first
          | (refine step_bytes2 (by rfl) _ _ _ 5 (by rfl) Try.underlying22 infoB (by rfl) (own_empty w6 5 f w6.heap.size rfl).drew (by rfl) (((hwas6.take (j := p) (by omega)).below ((Below.refl _ _).alloc (Nat.le_refl _) _)).drew) (by omega) (by simp) p (Nat.zero_add _) f (fun i _ => cat_zero f f i) ?_; rintro A7 c7 w7 hown7 hB7; have hK1 : Below w6.heap.size w6 w7 := ((Below.refl _ _).alloc (Nat.le_refl _) _).drew.trans hB7)
          | (refine step_bytes2 (by rfl) _ _ _ 5 (by rfl) Try.underlying22 infoB (by rfl) hown7 (by rfl) (hpart6.below hK1) (by omega) hK1.size (p + k) rfl _ (fun i _ => rfl) ?_; rintro A8 c8 w8 hown8 hB8; have hK2 : Below w6.heap.size w6 w8 := hK1.trans hB8)
          | (refine step_bytes2 (by rfl) _ _ _ 5 (by rfl) Try.underlying22 infoB (by rfl) hown8 (by rfl) (byt_none w8 w8.heap.size gw ow (fun i => f (p + k + i))) (by omega) hK2.size (p + k) (by omega) _ (fun i _ => rfl) ?_; rintro A9 c9 w9 hown9 hB9; have hK3 : Below w6.heap.size w6 w9 := hK2.trans hB9))
      go_wp2_with fail
      refine (same_any _ _ _ _ _ _ _ _ _ ((hout6.below hK3).more hK3.size) hown9.byt).mono ?_
      rw [HA.out]
      rintro e w10 ⟨rfl, hB10⟩
      have hb9 := hb6.trans (hK3.mono hb6.size)
      have hb10 := hb9.trans (hB10.mono hb9.size)
      go_wp2_with fail
      refine (awake_any _).mono ?_
      rintro e w11 ⟨rfl, hB11⟩
      go_wp2
      go_ret
      exact ⟨rfl, hb10.trans (hB11.mono hb10.size)⟩
    · have hsrc : Byt w6 w6.heap.size (some ⟨gw, ow + (p + k), none⟩) (n - (p + k)) (c2 - (p + k)) (fun i => f (p + k + i)) := by
        have := hwas6.cut (i := p + k) (j := n) (by omega) (Nat.le_refl _)
        rw [if_neg hcc] at this
        rwa [show (some (⟨gw, ow, none⟩ : Addr)).map (·.add (p + k)) = some ⟨gw, ow + (p + k), none⟩ from by simp [Addr.add]; omega] at this
      go_region_held3 (fun w' => w'.cell? ⟨w.heap.size, 0, none⟩ = some (.int .i64 p) ∧ w'.cell? ⟨w.heap.size, 1, none⟩ = some (.int .i64 k))
        (first
          | go_keep
          | exact ⟨(hK1.cell (p := ⟨w.heap.size, 0, none⟩) (by show w.heap.size < _; omega)).trans z0, (hK1.cell (p := ⟨w.heap.size, 1, none⟩) (by show w.heap.size < _; omega)).trans z1⟩
          | exact ⟨(hK2.cell (p := ⟨w.heap.size, 0, none⟩) (by show w.heap.size < _; omega)).trans z0, (hK2.cell (p := ⟨w.heap.size, 1, none⟩) (by show w.heap.size < _; omega)).trans z1⟩
          | exact ⟨(hK3.cell (p := ⟨w.heap.size, 0, none⟩) (by show w.heap.size < _; omega)).trans z0, (hK3.cell (p := ⟨w.heap.size, 1, none⟩) (by show w.heap.size < _; omega)).trans z1⟩)
        (first
          | (refine step_bytes2 (by rfl) _ _ _ 5 (by rfl) Try.underlying22 infoB (by rfl) (own_empty w6 5 f w6.heap.size rfl).drew (by rfl) (((hwas6.take (j := p) (by omega)).below ((Below.refl _ _).alloc (Nat.le_refl _) _)).drew) (by omega) (by simp) p (Nat.zero_add _) f (fun i _ => cat_zero f f i) ?_; rintro A7 c7 w7 hown7 hB7; have hK1 : Below w6.heap.size w6 w7 := ((Below.refl _ _).alloc (Nat.le_refl _) _).drew.trans hB7)
          | (refine step_bytes2 (by rfl) _ _ _ 5 (by rfl) Try.underlying22 infoB (by rfl) hown7 (by rfl) (hpart6.below hK1) (by omega) hK1.size (p + k) rfl _ (fun i _ => rfl) ?_; rintro A8 c8 w8 hown8 hB8; have hK2 : Below w6.heap.size w6 w8 := hK1.trans hB8)
          | (refine step_bytes2 (by rfl) _ _ _ 5 (by rfl) Try.underlying22 infoB (by rfl) hown8 (by rfl) (hsrc.below hK2) (by omega) hK2.size n (by omega) _ (fun i _ => rfl) ?_; rintro A9 c9 w9 hown9 hB9; have hK3 : Below w6.heap.size w6 w9 := hK2.trans hB9))
      go_wp2_with fail
      refine (same_any _ _ _ _ _ _ _ _ _ ((hout6.below hK3).more hK3.size) hown9.byt).mono ?_
      rw [HA.out]
      rintro e w10 ⟨rfl, hB10⟩
      have hb9 := hb6.trans (hK3.mono hb6.size)
      have hb10 := hb9.trans (hB10.mono hb9.size)
      go_wp2_with fail
      refine (awake_any _).mono ?_
      rintro e w11 ⟨rfl, hB11⟩
      go_wp2
      go_ret
      exact ⟨rfl, hb10.trans (hB11.mono hb10.size)⟩
  · refine (bytes_any x k _ HX.out (by omega)).mono ?_
    rintro e w5 ⟨A5, c5, rfl, hown5, hB5⟩
    have hs5 := hB5.size
    have hb5 := hb4.trans (hB5.mono hb4.size)
    have z0 := (hB5.cell (p := ⟨w.heap.size, 0, none⟩) (by show w.heap.size < _; omega)).trans z0
    have z1 := (hB5.cell (p := ⟨w.heap.size, 1, none⟩) (by show w.heap.size < _; omega)).trans z1
    have z2 := (hB5.cell (p := ⟨w.heap.size, 2, none⟩) (by show w.heap.size < _; omega)).trans z2
    have hwas5 := (hwas4.below hB5).more hs5
    have hout5 := (hout4.below hB5).more hs5
    go_wp2_with fail
    refine (turn_any _ _ _ _ _ (by omega) hown5.byt).mono ?_
    rintro e w6 ⟨A6, c6, rfl, hown6, hB6⟩
    have hs6 := hB6.size
    have hb6 := hb5.trans (hB6.mono hb5.size)
    have z0 := (hB6.cell (p := ⟨w.heap.size, 0, none⟩) (by show w.heap.size < _; omega)).trans z0
    have z1 := (hB6.cell (p := ⟨w.heap.size, 1, none⟩) (by show w.heap.size < _; omega)).trans z1
    have hwas6 := (hwas5.below hB6).more hs6
    have hout6 := (hout5.below hB6).more hs6
    have hpart6 := hown6.byt
    have hal := alike_self _ _ n (HP.out (fun i => x / 256 ^ (k - 1 - i) % 256) (fun i _ => rfl))
    have HA := Lib.hid hal
    clear hal hwas4 hout4 hown6 HP HX HG HV hr
    go_wp2_with fail
    have i0 : (0 : Int) ≤ (p : Int) := by omega
    have i1 : (p : Int) ≤ (c2 : Int) := by omega
    have i2 : (0 : Int) ≤ (p : Int) + (k : Int) := by omega
    have i3 : (p : Int) + (k : Int) ≤ (n : Int) := by omega
    have i4 : IntKind.i64.wrap ((p : Int) + (k : Int)) = (p : Int) + (k : Int) := IntWalk.i64_in _ (by omega)
    have i5 : ((p : Int) + (k : Int)).toNat = p + k := by omega
    have i6 : (0 : Int) ≤ (k : Int) := by omega
    have i7 : (p : Int) ≤ (p : Int) + (k : Int) := by omega
    by_cases hcc : c2 = p + k
    · subst hcc
      obtain rfl : n = p + k := by omega
      go_region_held3 (fun w' => w'.cell? ⟨w.heap.size, 0, none⟩ = some (.int .i64 p) ∧ w'.cell? ⟨w.heap.size, 1, none⟩ = some (.int .i64 k))
        (first
          | go_keep
          | exact ⟨(hK1.cell (p := ⟨w.heap.size, 0, none⟩) (by show w.heap.size < _; omega)).trans z0, (hK1.cell (p := ⟨w.heap.size, 1, none⟩) (by show w.heap.size < _; omega)).trans z1⟩
          | exact ⟨(hK2.cell (p := ⟨w.heap.size, 0, none⟩) (by show w.heap.size < _; omega)).trans z0, (hK2.cell (p := ⟨w.heap.size, 1, none⟩) (by show w.heap.size < _; omega)).trans z1⟩
          | exact ⟨(hK3.cell (p := ⟨w.heap.size, 0, none⟩) (by show w.heap.size < _; omega)).trans z0, (hK3.cell (p := ⟨w.heap.size, 1, none⟩) (by show w.heap.size < _; omega)).trans z1⟩)
        (first
          | (refine step_bytes2 (by rfl) _ _ _ 5 (by rfl) Try.underlying22 infoB (by rfl) (own_empty w6 5 f w6.heap.size rfl).drew (by rfl) (((hwas6.take (j := p) (by omega)).below ((Below.refl _ _).alloc (Nat.le_refl _) _)).drew) (by omega) (by simp) p (Nat.zero_add _) f (fun i _ => cat_zero f f i) ?_; rintro A7 c7 w7 hown7 hB7; have hK1 : Below w6.heap.size w6 w7 := ((Below.refl _ _).alloc (Nat.le_refl _) _).drew.trans hB7)
          | (refine step_bytes2 (by rfl) _ _ _ 5 (by rfl) Try.underlying22 infoB (by rfl) hown7 (by rfl) (hpart6.below hK1) (by omega) hK1.size (p + k) rfl _ (fun i _ => rfl) ?_; rintro A8 c8 w8 hown8 hB8; have hK2 : Below w6.heap.size w6 w8 := hK1.trans hB8)
          | (refine step_bytes2 (by rfl) _ _ _ 5 (by rfl) Try.underlying22 infoB (by rfl) hown8 (by rfl) (byt_none w8 w8.heap.size gw ow (fun i => f (p + k + i))) (by omega) hK2.size (p + k) (by omega) _ (fun i _ => rfl) ?_; rintro A9 c9 w9 hown9 hB9; have hK3 : Below w6.heap.size w6 w9 := hK2.trans hB9))
      go_wp2_with fail
      refine (same_any _ _ _ _ _ _ _ _ _ ((hout6.below hK3).more hK3.size) hown9.byt).mono ?_
      rw [HA.out]
      rintro e w10 ⟨rfl, hB10⟩
      have hb9 := hb6.trans (hK3.mono hb6.size)
      have hb10 := hb9.trans (hB10.mono hb9.size)
      go_wp2_with fail
      refine (awake_any _).mono ?_
      rintro e w11 ⟨rfl, hB11⟩
      go_wp2
      go_ret
      exact ⟨rfl, hb10.trans (hB11.mono hb10.size)⟩
    · have hsrc : Byt w6 w6.heap.size (some ⟨gw, ow + (p + k), none⟩) (n - (p + k)) (c2 - (p + k)) (fun i => f (p + k + i)) := by
        have := hwas6.cut (i := p + k) (j := n) (by omega) (Nat.le_refl _)
        rw [if_neg hcc] at this
        rwa [show (some (⟨gw, ow, none⟩ : Addr)).map (·.add (p + k)) = some ⟨gw, ow + (p + k), none⟩ from by simp [Addr.add]; omega] at this
      go_region_held3 (fun w' => w'.cell? ⟨w.heap.size, 0, none⟩ = some (.int .i64 p) ∧ w'.cell? ⟨w.heap.size, 1, none⟩ = some (.int .i64 k))
        (first
          | go_keep
          | exact ⟨(hK1.cell (p := ⟨w.heap.size, 0, none⟩) (by show w.heap.size < _; omega)).trans z0, (hK1.cell (p := ⟨w.heap.size, 1, none⟩) (by show w.heap.size < _; omega)).trans z1⟩
          | exact ⟨(hK2.cell (p := ⟨w.heap.size, 0, none⟩) (by show w.heap.size < _; omega)).trans z0, (hK2.cell (p := ⟨w.heap.size, 1, none⟩) (by show w.heap.size < _; omega)).trans z1⟩
          | exact ⟨(hK3.cell (p := ⟨w.heap.size, 0, none⟩) (by show w.heap.size < _; omega)).trans z0, (hK3.cell (p := ⟨w.heap.size, 1, none⟩) (by show w.heap.size < _; omega)).trans z1⟩)
        (first
          | (refine step_bytes2 (by rfl) _ _ _ 5 (by rfl) Try.underlying22 infoB (by rfl) (own_empty w6 5 f w6.heap.size rfl).drew (by rfl) (((hwas6.take (j := p) (by omega)).below ((Below.refl _ _).alloc (Nat.le_refl _) _)).drew) (by omega) (by simp) p (Nat.zero_add _) f (fun i _ => cat_zero f f i) ?_; rintro A7 c7 w7 hown7 hB7; have hK1 : Below w6.heap.size w6 w7 := ((Below.refl _ _).alloc (Nat.le_refl _) _).drew.trans hB7)
          | (refine step_bytes2 (by rfl) _ _ _ 5 (by rfl) Try.underlying22 infoB (by rfl) hown7 (by rfl) (hpart6.below hK1) (by omega) hK1.size (p + k) rfl _ (fun i _ => rfl) ?_; rintro A8 c8 w8 hown8 hB8; have hK2 : Below w6.heap.size w6 w8 := hK1.trans hB8)
          | (refine step_bytes2 (by rfl) _ _ _ 5 (by rfl) Try.underlying22 infoB (by rfl) hown8 (by rfl) (hsrc.below hK2) (by omega) hK2.size n (by omega) _ (fun i _ => rfl) ?_; rintro A9 c9 w9 hown9 hB9; have hK3 : Below w6.heap.size w6 w9 := hK2.trans hB9))
      go_wp2_with fail
      refine (same_any _ _ _ _ _ _ _ _ _ ((hout6.below hK3).more hK3.size) hown9.byt).mono ?_
      rw [HA.out]
      rintro e w10 ⟨rfl, hB10⟩
      have hb9 := hb6.trans (hK3.mono hb6.size)
      have hb10 := hb9.trans (hB10.mono hb9.size)
      go_wp2_with fail
      refine (awake_any _).mono ?_
      rintro e w11 ⟨rfl, hB11⟩
      go_wp2
      go_ret
      exact ⟨rfl, hb10.trans (hB11.mono hb10.size)⟩

theorem walk_WordPuts {w0 : World} (A : Option Addr) (n c : Nat) (f : Nat → Nat) (hr : Byt w0 w0.heap.size A n c f) (p wd : Int) (big : Bool) (hp : (Lit.int .i64 p).wf = true) (_hw : (Lit.int .i64 wd).wf = true) (x : Int) (hx : (Lit.int .u64 x).wf = true) :
    Calls Try.prog 4 #[.slice A n c, .agg #[.int .i64 p, .int .i64 wd, .bool big], .int .u64 x] w0 fun e w' => e = .returned (.bool true) ∧ Below w0.heap.size w0 w' := by
  simp [Lit.wf, IntKind.min, IntKind.max, IntKind.signed, IntKind.bits] at hp hx
  by_cases h : 200 < n
  · exact puts_long A n c f p wd x big w0 hr h
  by_cases hf : flt n p wd = 0
  · obtain ⟨hk, h0, h1⟩ := flt_ok hf
    obtain ⟨q, rfl⟩ := Int.eq_ofNat_of_zero_le h0
    obtain ⟨k, rfl⟩ := Int.eq_ofNat_of_zero_le (show 0 ≤ wd by omega)
    obtain ⟨y, rfl⟩ := Int.eq_ofNat_of_zero_le hx.1
    obtain ⟨b, off, rfl, hb, hc⟩ := hr.at_ (by omega)
    exact puts_ok big b off n c f q k y w0 hb hc hr.le.1 hr.le.2 (by omega) (by omega) (by omega) (by omega)
  · exact puts_err A n c f p wd x big w0 hr (by omega) hp.1 hp.2 hf

namespace wordPutsRow
open Go.ChangeShapes Go.WideShapes Go.ChangeAt Go.RowKit Go.Joins
open Go.ChangeMaps (open_string shut_string)
set_option linter.unusedVariables false
theorem own : ownKnob Try.prog.godebug = none := by kernel_rfl
theorem laidOut : laidOutB Try.prog = true := by kernel_rfl
set_option maxRecDepth 100000 in
theorem lifted (os : Os) (started : os.Started) (H : Type) (enc : TypeId × Value → H) :
    ReturnsInHanded {} Try.checked os 4 .any (Rows.wordPutsSpec.pre6 enc Try.prog Try.f4 Rows.wordPutsRow.domain false) (Rows.wordPutsSpec.post enc Try.prog Try.f4 false true false false) := by
  refine returnsInHanded_of_change (C := Try.checked) own started (by kernel_rfl) Try.func4
    (ChangeSpec.witness6 (enc := enc) (C := Try.checked) false ⟨#[], #[.slice none 0 0, .agg #[.int .i64 0, .int .i64 0, .bool false], .int .u64 0], []⟩ 8 (by kernel_rfl) (by kernel_rfl) (by kernel_rfl) (by kernel_rfl)) ?_
  intro W base args ds gs before hval0 hW hcnd _
  have hval : ∀ (j : Nat) t v, Try.f4.params[j]? = some t → args[j]? = some v → Value.okWide Try.prog W .any base t v := hval0
  have hW' := hW
  obtain ⟨p, q, hA0, hV, rfl, hfz, hnd⟩ := hW
  have hA : DataW.TrodAll enc Try.prog W 0 (fun _ => true) true Try.f4.params.toList args.toList ds p := hA0
  rw [Try.params4] at hA hval
  obtain ⟨v0, vs0, d0, ds0, p0, q0, hargs, rfl, rfl, h0, r0⟩ := trodAll_cons hA
  obtain ⟨v1, vs1, d1, ds1, p1, q1, rfl, rfl, rfl, h1, r1⟩ := trodAll_cons r0
  obtain ⟨v2, vs2, d2, ds2, p2, q2, rfl, rfl, rfl, h2, r2⟩ := trodAll_cons r1
  obtain ⟨rfl, rfl, rfl⟩ := trodAll_nil r2
  obtain rfl : args = #[v0, v1, v2] := by cases args; simp_all
  obtain ⟨rfl, rfl⟩ := trodVars_none hV
  have k0 := h0
  have lt0 : ∀ x ∈ p0, x.block < W.heap.size := by obtain ⟨m, hm⟩ := k0; exact DataW.trod_lt m _ _ _ hm
  have k1 := h1
  have lt1 : ∀ x ∈ p1, x.block < W.heap.size := by obtain ⟨m, hm⟩ := k1; exact DataW.trod_lt m _ _ _ hm
  have k2 := h2
  have lt2 : ∀ x ∈ p2, x.block < W.heap.size := by obtain ⟨m, hm⟩ := k2; exact DataW.trod_lt m _ _ _ hm
  obtain ⟨a0, len0, cap0, rfl⟩ := okWide_slice Try.underlying22 (hval 0 22 v0 rfl rfl)
  obtain ⟨f0, w0⟩ : ∃ f, Byt W W.heap.size a0 len0 cap0 f := by
    obtain ⟨fuel, hf⟩ := h0
    rcases open_ints Try.underlying22 Try.underlying5 (by kernel_rfl) hf with ⟨hcs, _⟩ | ⟨x, l, c, zs, hcs, _, hl, hm, hz, _, hcell, hwz⟩
    · simp [Value.cells] at hcs
      obtain ⟨rfl, rfl, rfl⟩ := hcs
      exact ⟨fun _ => 0, Byt.nil_⟩
    · simp [Value.cells] at hcs
      obtain ⟨rfl, rfl, rfl⟩ := hcs
      exact ⟨_, byt_of_ints hl hm (by have : zs.length = cap0 := by simpa using hz
                                      omega) hcell hwz⟩
  obtain ⟨c0, c1, c2, y0, y1, y2, m1, rfl, _, _, hy0, hy1, hy2⟩ := open_agg3 Try.underlying24 (by kernel_rfl) (show Try.prog.cellsOf 24 = 3 by kernel_rfl) (hval 1 24 v1 rfl rfl) h1
  obtain ⟨x1, e0, _, u1⟩ := DataW.trod_int Try.underlying3 hy0
  obtain ⟨y1, e1, _, t1⟩ := DataW.trod_int Try.underlying3 hy1
  obtain ⟨b1, e2, _⟩ := DataW.trod_bool Try.underlying4 hy2
  simp at e0 e1 e2
  subst e0 e1 e2
  obtain ⟨a2, rfl, rfl, rfl, w2⟩ := open_int Try.underlying25 (hval 2 25 v2 rfl rfl) h2
  clear hA0 hval0
  refine (walk_WordPuts (w0 := W) a0 len0 cap0 f0 w0 x1 y1 b1 u1 t1 a2 w2).mono fun e W' ⟨he, bel⟩ => ?_
  subst he
  exact ⟨_, rfl, _, _, _, [], _, [], hW', trodAll_mk1 (shut_bool Try.underlying4 _), (trodAll_cons_mk (Below.trod laidOut (by kernel_rfl) (of_decide_eq_true (by kernel_rfl)) k0 bel lt0) (trodAll_cons_mk (Below.trod laidOut (by kernel_rfl) (of_decide_eq_true (by kernel_rfl)) k1 bel lt1) (trodAll_cons_mk (Below.trod laidOut (by kernel_rfl) (of_decide_eq_true (by kernel_rfl)) k2 bel lt2) trodAll_mk0))), rfl, bel.frame _, fun h => by cases h⟩

theorem over : Rows.wordPutsRow.holds Try.pinned (OpenSpec.ofChange Rows.wordPutsSpec) :=
  OpenClaim.holds_of_wide 4 Try.f4 rfl rfl rfl rfl rfl rfl rfl ⟨rfl, rfl, rfl, rfl, rfl⟩ rfl rfl rfl rfl rfl (by kernel_rfl) Try.func4 (by kernel_rfl)
    (of_decide_eq_true (by kernel_rfl)) (by unfold Func.isWrapper; first | (rw [if_pos (by decide +kernel)]; kernel_rfl) | (rw [if_neg (by decide +kernel)]; exact ⟨rfl, rfl⟩))
    (fun os started H enc _ => lifted os started H enc)
end wordPutsRow

theorem wordPuts_proved : Rows.WordPutsSaid := wordPutsRow.over
#print axioms wordPuts_proved
end Go.Proofs.Ytfdfngljfilomaa
