/-
  WHICH CALL ANY RECORD IS, of any table that may be (of 40 rows): the program's answer is the document's.
-/
import Derived.Test.YtlninlempefjcaaRows
import Derived.Test.YtlninlempefjcaaMd
import Derived.Deep.RegionHeld3
import Derived.Deep.CutRange
import Derived.ProofKit
import Derived.OpenShut
import Derived.ShutString
import Derived.ChangeOld
import Derived.Below
import Derived.Lib.SmallJoins
namespace Go.Proofs.Ytlninlempefjcaa
open Go.RowKit
set_option linter.unusedVariables false

theorem bAl {a w : World} (h : Below a.heap.size a w) (o : Obj) : Below a.heap.size a (w.alloc o) := h.alloc h.size o
theorem bTr {a w w' : World} (h : Below a.heap.size a w) (h2 : Below w.heap.size w w') : Below a.heap.size a w' := h.trans (h2.mono h.size)
theorem row4 {W : World} {X : Nat} {a b c d : Value} {T : TypeId} (h : RowC W X #[a, b, c, d] T) : (W.cell? ⟨X, 0, none⟩ = some a ∧ W.cell? ⟨X, 1, none⟩ = some b ∧ W.cell? ⟨X, 2, none⟩ = some c ∧ W.cell? ⟨X, 3, none⟩ = some d) ∧ W.frozen? ⟨X, 0, none⟩ = false ∧ W.frozen? ⟨X, 1, none⟩ = false ∧ W.frozen? ⟨X, 2, none⟩ = false ∧ W.frozen? ⟨X, 3, none⟩ = false :=
  ⟨⟨h.cell 0 _ rfl, h.cell 1 _ rfl, h.cell 2 _ rfl, h.cell 3 _ rfl⟩, h.frozen 0, h.frozen 1, h.frozen 2, h.frozen 3⟩
/-- A name and its place. -/
theorem at_name {P Q : Nat → Bool} {T : Nat → SR} {n : Nat} {nm : ByteArray} {p : Int} (h : NameOf P T n nm) (h' : AtP Q n p) (e : ∀ i, i < n → P i = Q i) :
    (∃ j, j < n ∧ p = (j : Nat) ∧ nm = (T j).nm) ∨ (p = -1 ∧ nm = ⟨#[]⟩) := by
  rcases h with ⟨j, h1, h2, h3, rfl⟩ | ⟨h1, rfl⟩ <;> rcases h' with ⟨k, k1, k2, k3, rfl⟩ | ⟨k1, rfl⟩
  · have : j = k := by
      rcases Nat.lt_trichotomy j k with h | h | h
      · have := k3 j h; rw [← e j h1, h2] at this; cases this
      · exact h
      · have := h3 k h; rw [e k k1, k2] at this; cases this
    subst this
    exact .inl ⟨j, h1, rfl, rfl⟩
  · have := k1 j h1; rw [← e j h1, h2] at this; cases this
  · have := h1 k k1; rw [e k k1, k2] at this; cases this
  · exact .inr ⟨rfl, rfl⟩
theorem sub_same {T : Nat → SR} {i : Nat} {k : Nat} {sb : Int} (hk : k = 1 ∨ k = 2) : isSub T (k : Nat) sb i = subR T (k : Nat) sb i := by
  rcases hk with rfl | rfl <;> simp [isSub, subR]
theorem num_same {T : Nat → SR} {i a : Nat} {x : Int} (ha : a < 5) (h : RngP (T i)) : isNum T a x i = (numR (T i) i a == x) := by
  have := (h a ha).1
  unfold isNum numAt numR
  by_cases h1 : numI (T i) a = -1
  · rw [if_pos h1, if_neg (by omega)]
  · rw [if_neg h1, if_pos (by omega)]
/-- What both say of a record. -/
theorem both_say {T : Nat → SR} {n : Nat} {r : RV} {sm : Bool} {ab : Nat} {nm : ByteArray} {mu : Bool} {ab' p : Int} {mu' : Bool} (hok : OkT n T) (h : CallP T n r sm ab nm mu) (h' : RefP T n r ab' p mu') :
    (ab' = -1 ∧ sm = false ∧ ab = 0 ∧ nm = ⟨#[]⟩ ∧ mu = false) ∨ (ab' = (ab : Nat) ∧ sm = true ∧ mu' = mu ∧ ((∃ j, j < n ∧ p = (j : Nat) ∧ nm = (T j).nm) ∨ (p = -1 ∧ nm = ⟨#[]⟩))) := by
  rcases h with ⟨h1, h2, h3, h4, h5⟩ | ⟨h1, h2, h3, h4⟩ <;> rcases h' with ⟨k1, k2, k3, k4⟩ | ⟨k1, k2, k3⟩
  · exact .inl ⟨k2, h2, h3, h4, h5⟩
  · rw [h1] at k1; cases k1
  · rw [h1] at k1; cases k1
  · rw [← h3] at k2 k3
    have hab : ab < 5 := by rw [h3]; exact selA_lt _ _
    refine .inr ⟨k2, h2, ?_⟩
    rcases h4 with ⟨a1, a2, rfl, a4⟩ | ⟨a1, rfl, a3⟩ <;> rcases k3 with ⟨b1, b2, rfl, b4⟩ | ⟨b1, rfl, b3⟩
    · refine ⟨rfl, at_name a4 b4 fun i hi => sub_same ?_⟩
      unfold kindF at a2 ⊢
      split
      · exact .inl rfl
      · split
        · exact .inr rfl
        · rename_i x y; rw [if_neg x, if_neg y] at a2; exact absurd rfl a2
    · exact absurd ⟨a1, a2⟩ b1
    · exact absurd ⟨b1, b2⟩ a1
    · exact ⟨rfl, at_name a3 b3 fun i hi => num_same hab (row_ok (hok.2 i hi)).2.2.1⟩

set_option maxRecDepth 100000 in
set_option maxHeartbeats 16000000 in
theorem walk_MuxCalls {w0 : World} (A : Option Addr) (n cap : Nat) (T : Nat → SR) (ht : TbA w0 A n T) (r : RV) (hr : r.ok) :
    Calls Try.prog 4 #[.slice A n cap, .agg (rcells r)] w0 fun e w' => e = .returned (.bool true) ∧ Below w0.heap.size w0 w' := by
  obtain ⟨U, hU⟩ : ∃ U, w0.alloc (.cells #[.int .u32 r.n, .int .u32 r.a, .int .u64 r.p, .int .u64 (r.q 0), .int .u64 (r.q 1), .int .u64 (r.q 2), .int .u64 (r.q 3), .int .u64 (r.q 4), .int .u64 (r.q 5)] 51) = U := ⟨_, rfl⟩
  have ru : RowC U w0.heap.size (rcells r) 51 := by rw [← hU]; exact RowC.new _ _ _ _ rfl
  have hbU : Below w0.heap.size w0 U := by rw [← hU]; exact (Below.refl _ _).alloc (Nat.le_refl _) _
  have HT := Lib.hid (ht.below hbU (Nat.le_refl _))
  have HLT := Lib.hid (light12_any A n cap T U HT.out)
  have HRU := Lib.hid ru
  have HBU := Lib.hid hbU
  have HU := Lib.hid hU
  have HR := Lib.hid hr
  clear hU hbU ru ht hr
  unfold rcells
  go_enter Try.func4, Try.ntmps4
  go_upto_region 1 with fail
  rw [HU.out]
  go_wp2_with fail
  refine HLT.out.mono ?_
  rintro e w1 ⟨h, hB1⟩
  have HRU1 := Lib.hid (HRU.out.below hB1 HRU.out.lt)
  have HT1 := Lib.hid (HT.out.below hB1 (Nat.le_refl _))
  have HB1 := Lib.hid (HBU.out.trans (hB1.mono HBU.out.size))
  clear hB1 HRU HT HBU HLT
  rcases h with ⟨hok, rfl⟩ | ⟨hok, rfl⟩
  case inr =>
    clear hok
    go_wp2
    go_ret
    exact ⟨rfl, HB1.out⟩
  have HOK := Lib.hid hok
  have h40 := hok.1
  clear hok
  go_upto_region 3 with fail
  go_cut [5] from 11 to 15 (fun s wx => ∃ (X : Nat) (sm : Bool) (ab : Nat) (nm : ByteArray) (mu : Bool), s = .pointer (some ⟨X, 0, none⟩) ∧ CallP T n r sm ab nm mu ∧ RowC wx X #[.bool sm, .int .i64 (ab : Nat), .string nm, .bool mu] 53 ∧ RowC wx w0.heap.size (rcells r) 51 ∧ TbA wx A n T ∧ Below w0.heap.size w0 wx)
  case first =>
    have hlu := HRU1.out.lt
    have hk0 : Below w1.heap.size w1 w1.drew := (Below.refl _ w1).drew
    have HS : Hid (∀ W, Below w1.heap.size w1 W → W.cell? ⟨w0.heap.size, 0, none⟩ = some (.int .u32 r.n) ∧ W.cell? ⟨w0.heap.size, 1, none⟩ = some (.int .u32 r.a) ∧ W.cell? ⟨w0.heap.size, 2, none⟩ = some (.int .u64 r.p) ∧ W.cell? ⟨w0.heap.size, 3, none⟩ = some (.int .u64 (r.q 0)) ∧ W.cell? ⟨w0.heap.size, 4, none⟩ = some (.int .u64 (r.q 1)) ∧ W.cell? ⟨w0.heap.size, 5, none⟩ = some (.int .u64 (r.q 2)) ∧ W.cell? ⟨w0.heap.size, 6, none⟩ = some (.int .u64 (r.q 3)) ∧ W.cell? ⟨w0.heap.size, 7, none⟩ = some (.int .u64 (r.q 4)) ∧ W.cell? ⟨w0.heap.size, 8, none⟩ = some (.int .u64 (r.q 5))) := Lib.hid fun W hW => ⟨(HRU1.out.below hW hlu).cell 0 _ rfl, (HRU1.out.below hW hlu).cell 1 _ rfl, (HRU1.out.below hW hlu).cell 2 _ rfl, (HRU1.out.below hW hlu).cell 3 _ rfl, (HRU1.out.below hW hlu).cell 4 _ rfl, (HRU1.out.below hW hlu).cell 5 _ rfl, (HRU1.out.below hW hlu).cell 6 _ rfl, (HRU1.out.below hW hlu).cell 7 _ rfl, (HRU1.out.below hW hlu).cell 8 _ rfl⟩
    have HOF := Lib.hid fun W (hW : Below w1.heap.size w1 W) => of12_any A n cap T W (by omega) (HT1.out.below hW (Nat.le_refl _))
    have HRC : Hid (∀ W, Calls Try.prog 23 #[.agg #[.int .u32 r.n, .int .u32 r.a, .int .u64 r.p, .int .u64 (r.q 0), .int .u64 (r.q 1), .int .u64 (r.q 2), .int .u64 (r.q 3), .int .u64 (r.q 4), .int .u64 (r.q 5)]] W fun e w' => e = .returned (.agg #[.int .u32 r.n, .int .u32 r.a, .int .u64 r.p, .int .u64 (r.q 0), .int .u64 (r.q 1), .int .u64 (r.q 2), .int .u64 (r.q 3), .int .u64 (r.q 4), .int .u64 (r.q 5)]) ∧ Below W.heap.size W w') := Lib.hid fun W => record12_any r W
    have HMX : Hid (∀ A' c' W, TbA W A' n T → Calls Try.prog 21 #[.slice A' n c', .agg #[.int .u32 r.n, .int .u32 r.a, .int .u64 r.p, .int .u64 (r.q 0), .int .u64 (r.q 1), .int .u64 (r.q 2), .int .u64 (r.q 3), .int .u64 (r.q 4), .int .u64 (r.q 5)]] W fun e w' => ∃ sm ab nm mu, CallP T n r sm ab nm mu ∧ e = .returned (.agg #[.bool sm, .int .i64 (ab : Nat), .string nm, .bool mu]) ∧ Below W.heap.size W w') := Lib.hid fun A' c' W h => of_mux A' n c' T r HR.out W (by omega) h
    go_region_held3 (fun w' => w'.cell? ⟨w0.heap.size, 0, none⟩ = some (.int .u32 r.n) ∧ w'.cell? ⟨w0.heap.size, 1, none⟩ = some (.int .u32 r.a) ∧ w'.cell? ⟨w0.heap.size, 2, none⟩ = some (.int .u64 r.p) ∧ w'.cell? ⟨w0.heap.size, 3, none⟩ = some (.int .u64 (r.q 0)) ∧ w'.cell? ⟨w0.heap.size, 4, none⟩ = some (.int .u64 (r.q 1)) ∧ w'.cell? ⟨w0.heap.size, 5, none⟩ = some (.int .u64 (r.q 2)) ∧ w'.cell? ⟨w0.heap.size, 6, none⟩ = some (.int .u64 (r.q 3)) ∧ w'.cell? ⟨w0.heap.size, 7, none⟩ = some (.int .u64 (r.q 4)) ∧ w'.cell? ⟨w0.heap.size, 8, none⟩ = some (.int .u64 (r.q 5)))
      (exact HS.out _ (by repeat (first | assumption | exact Below.refl _ _ | apply Below.drew | apply bAl | (refine Below.setCell ?_ (by first | exact Nat.le_refl _ | exact hkR.size | exact hkF.size | exact hkM.size) _))))
      (first
        | (go_at_call 22
           (with_reducible refine (HOF.out _ (by repeat (first | assumption | exact Below.refl _ _ | apply Below.drew | apply bAl | (refine Below.setCell ?_ (by first | exact Nat.le_refl _ | exact hkR.size | exact hkF.size | exact hkM.size) _)))).mono ?_)
           rintro e w2 ⟨A2, c2, rfl, hown2, hB2⟩
           have hkF : Below w1.heap.size w1 w2 := bTr (by repeat (first | assumption | exact Below.refl _ _ | apply Below.drew | apply bAl | (refine Below.setCell ?_ (by first | exact Nat.le_refl _ | exact hkR.size | exact hkF.size | exact hkM.size) _))) hB2
           have HTF := Lib.hid (own_TbA hown2)
           try (have hx : RowC w2 w1.heap.size call0 53 := (hB2.block w1.heap.size (by show _ < (World.alloc _ _).heap.size; simp)).trans (heap_alloc_last w1 _)
                have HX := Lib.hid hx
                obtain ⟨⟨x0, x1, x2, x3⟩, y0, y1, y2, y3⟩ := row4 hx
                clear hx)
           try (have hx : RowC w2 w3.heap.size call0 53 := (hB2.block w3.heap.size (by show _ < (World.alloc _ _).heap.size; simp)).trans (heap_alloc_last w3 _)
                have HX := Lib.hid hx
                obtain ⟨⟨x0, x1, x2, x3⟩, y0, y1, y2, y3⟩ := row4 hx
                clear hx)
           try (have hx := HX.out.below hB2 HX.out.lt
                have HX := Lib.hid hx
                obtain ⟨⟨x0, x1, x2, x3⟩, y0, y1, y2, y3⟩ := row4 hx
                clear hx)
           clear hown2)
        | (go_at_call 23
           (with_reducible refine (HRC.out _).mono ?_)
           rintro e w3 ⟨rfl, hB3⟩
           have hkR : Below w1.heap.size w1 w3 := bTr (by repeat (first | assumption | exact Below.refl _ _ | apply Below.drew | apply bAl | (refine Below.setCell ?_ (by first | exact Nat.le_refl _ | exact hkR.size | exact hkF.size | exact hkM.size) _))) hB3
           try (have hx : RowC w3 w1.heap.size call0 53 := (hB3.block w1.heap.size (by show _ < (World.alloc _ _).heap.size; simp)).trans (heap_alloc_last w1 _)
                have HX := Lib.hid hx
                obtain ⟨⟨x0, x1, x2, x3⟩, y0, y1, y2, y3⟩ := row4 hx
                clear hx)
           try (have hx : RowC w3 w2.heap.size call0 53 := (hB3.block w2.heap.size (by show _ < (World.alloc _ _).heap.size; simp)).trans (heap_alloc_last w2 _)
                have HX := Lib.hid hx
                obtain ⟨⟨x0, x1, x2, x3⟩, y0, y1, y2, y3⟩ := row4 hx
                clear hx)
           try (have hx := HX.out.below hB3 HX.out.lt
                have HX := Lib.hid hx
                obtain ⟨⟨x0, x1, x2, x3⟩, y0, y1, y2, y3⟩ := row4 hx
                clear hx)
           have hnil : True := trivial)
        | (go_at_call 21
           (with_reducible refine (HMX.out _ _ _ (by first | exact HTF.out | exact HTF.out.below hB3 (Nat.le_refl _) | exact HTF.out.below (bAl (Below.refl _ _) _) (Nat.le_refl _) | exact (HTF.out.below hB3 (Nat.le_refl _)).below (bAl (Below.refl _ _) _) (Nat.le_refl _) | exact HTF.out.below (bTr (bAl (Below.refl _ _) _) hB3) (Nat.le_refl _))).mono ?_)
           rintro e w4 ⟨sm, ab, nm, mu, hP, rfl, hB4⟩
           have hkM : Below w1.heap.size w1 w4 := bTr (by repeat (first | assumption | exact Below.refl _ _ | apply Below.drew | apply bAl | (refine Below.setCell ?_ (by first | exact Nat.le_refl _ | exact hkR.size | exact hkF.size | exact hkM.size) _))) hB4
           try (have hx : RowC w4 w2.heap.size call0 53 := (hB4.block w2.heap.size (by show _ < (World.alloc _ _).heap.size; simp)).trans (heap_alloc_last w2 _)
                have HX := Lib.hid hx
                obtain ⟨⟨x0, x1, x2, x3⟩, y0, y1, y2, y3⟩ := row4 hx
                clear hx)
           try (have hx : RowC w4 w3.heap.size call0 53 := (hB4.block w3.heap.size (by show _ < (World.alloc _ _).heap.size; simp)).trans (heap_alloc_last w3 _)
                have HX := Lib.hid hx
                obtain ⟨⟨x0, x1, x2, x3⟩, y0, y1, y2, y3⟩ := row4 hx
                clear hx)
           try (have hx : RowC w4 w1.heap.size call0 53 := (hB4.block w1.heap.size (by show _ < (World.alloc _ _).heap.size; simp)).trans (heap_alloc_last w1 _)
                have HX := Lib.hid hx
                obtain ⟨⟨x0, x1, x2, x3⟩, y0, y1, y2, y3⟩ := row4 hx
                clear hx)
           try (have hx := HX.out.below hB4 HX.out.lt
                have HX := Lib.hid hx
                obtain ⟨⟨x0, x1, x2, x3⟩, y0, y1, y2, y3⟩ := row4 hx
                clear hx)
           have hnil : True := trivial))
    all_goals go_wp2_with fail
    all_goals go_meet
    all_goals
      have hE := fun W (hW : Below w1.heap.size w1 W) => And.intro (HRU1.out.below hW hlu) (And.intro (HT1.out.below hW (Nat.le_refl _)) (HB1.out.trans (hW.mono HB1.out.size)))
      refine ⟨_, sm, ab, nm, mu, rfl, hP, ?_, hE _ (by repeat (first | assumption | exact Below.refl _ _ | apply Below.drew | apply bAl | (refine Below.setCell ?_ (by first | exact Nat.le_refl _ | exact hkR.size | exact hkF.size | exact hkM.size) _)))⟩
      first | exact ((((HX.out.set 0 _).set 1 _).set 2 _).set 3 _) | (with_reducible exact RowC.new _ _ _ _ rfl)
  case rest =>
    obtain ⟨X, sm, ab, nm, mu, rfl, hP, hx, hru, ht, hB⟩ := hcut
    have HRO := Lib.hid (refOf_any A n cap T r HR.out wc (by omega) ht)
    have HAW := Lib.hid fun W => awake12_any W
    have HB := Lib.hid hB
    have HT := Lib.hid ht
    have HX := Lib.hid hx
    have d0 := hru.cell 0 (.int .u32 r.n) rfl
    have d1 := hru.cell 1 (.int .u32 r.a) rfl
    have d2 := hru.cell 2 (.int .u64 r.p) rfl
    have d3 := hru.cell 3 (.int .u64 (r.q 0)) rfl
    have d4 := hru.cell 4 (.int .u64 (r.q 1)) rfl
    have d5 := hru.cell 5 (.int .u64 (r.q 2)) rfl
    have d6 := hru.cell 6 (.int .u64 (r.q 3)) rfl
    have d7 := hru.cell 7 (.int .u64 (r.q 4)) rfl
    have d8 := hru.cell 8 (.int .u64 (r.q 5)) rfl
    clear HRU1 HT1 HB1 hB ht hx hru
    go_wp2_with fail
    refine HRO.out.mono ?_
    rintro e w5 ⟨ab', p, mu', hQ, rfl, hB5⟩
    clear d0 d1 d2 d3 d4 d5 d6 d7 d8
    go_upto_region 5 with fail
    obtain ⟨V, hV⟩ : ∃ V, w5.alloc (.cells #[.int .i64 ab', .int .i64 p, .bool mu'] 58) = V := ⟨_, rfl⟩
    have rv : RowC V w5.heap.size #[.int .i64 ab', .int .i64 p, .bool mu'] 58 := by rw [← hV]; exact RowC.new _ _ _ _ rfl
    have hb5 : Below wc.heap.size wc V := by rw [← hV]; exact hB5.alloc hB5.size _
    have HRV := Lib.hid rv
    have HXV := Lib.hid (HX.out.below hb5 HX.out.lt)
    have HTV := Lib.hid (HT.out.below hb5 (Nat.le_refl _))
    have HBV := Lib.hid (HB.out.trans (hb5.mono HB.out.size))
    rw [hV]
    have HBS := Lib.hid (both_say HOK.out hP hQ)
    clear hV rv hb5 hB5 HX HT HB HRO hP hQ
    generalize w5.heap.size = Y at *
    rcases HBS.out with ⟨rfl, rfl, rfl, rfl, rfl⟩ | ⟨rfl, rfl, rfl, h⟩
    · have v0 := HRV.out.cell 0 _ rfl
      have x0 := HXV.out.cell 0 _ rfl
      have x1 := HXV.out.cell 1 _ rfl
      have x2 := HXV.out.cell 2 _ rfl
      have x3 := HXV.out.cell 3 _ rfl
      go_wp2_with (go_at_call 25; refine (HAW.out _).mono ?_; rintro e w6 ⟨rfl, hB6⟩)
      go_ret
      exact ⟨rfl, HBV.out.trans (hB6.mono HBV.out.size)⟩
    · have v0 := HRV.out.cell 0 (.int .i64 (ab : Nat)) rfl
      have v1 := HRV.out.cell 1 (.int .i64 p) rfl
      have v2 := HRV.out.cell 2 (.bool mu') rfl
      have x0 := HXV.out.cell 0 _ rfl
      have x1 := HXV.out.cell 1 _ rfl
      have x2 := HXV.out.cell 2 _ rfl
      have x3 := HXV.out.cell 3 _ rfl
      have g0 : ¬ (ab : Int) < 0 := by omega
      have g1 : decide ((ab : Int) < 0) = false := decide_eq_false g0
      rcases h with ⟨j, hj, rfl, rfl⟩ | ⟨rfl, rfl⟩
      · obtain ⟨b, o, rfl, hTb⟩ := HTV.out.at_ hj
        obtain ⟨q0, -, -, -, -, -, -, -⟩ := hTb.2 j hj
        have g2 : (j : Int) ≥ 0 := by omega
        have g3 : decide ((j : Int) ≥ 0) = true := decide_eq_true g2
        have g4 : (j : Int) < (n : Int) := by omega
        clear hTb
        obtain ⟨nm, hnm⟩ : ∃ nm, (T j).nm = nm := ⟨_, rfl⟩
        rw [hnm] at q0 x2
        clear hnm
        have e53 : ∀ W, (binOp .eql 53 (.agg #[.bool true, .int .i64 (ab : Nat), .string nm, .bool mu']) (.agg #[.bool true, .int .i64 (ab : Nat), .string nm, .bool mu'])).run Try.prog W = .ok (.bool true) W := by
          intro W
          go_simp
        go_wp2_with (go_at_call 25; refine (HAW.out _).mono ?_; rintro e w6 ⟨rfl, hB6⟩)
        go_ret
        exact ⟨rfl, HBV.out.trans (hB6.mono HBV.out.size)⟩
      · have e53 : ∀ W, (binOp .eql 53 (.agg #[.bool true, .int .i64 (ab : Nat), .string ⟨#[]⟩, .bool mu']) (.agg #[.bool true, .int .i64 (ab : Nat), .string ⟨#[]⟩, .bool mu'])).run Try.prog W = .ok (.bool true) W := by
          intro W
          go_simp
        go_wp2_with (go_at_call 25; refine (HAW.out _).mono ?_; rintro e w6 ⟨rfl, hB6⟩)
        go_ret
        exact ⟨rfl, HBV.out.trans (hB6.mono HBV.out.size)⟩

namespace muxCallsRow
open Go.ChangeShapes Go.WideShapes Go.ChangeAt Go.RowKit Go.Joins
open Go.ChangeMaps (open_string shut_string)
set_option linter.unusedVariables false
theorem own : ownKnob Try.prog.godebug = none := by kernel_rfl
theorem laidOut : laidOutB Try.prog = true := by kernel_rfl
set_option maxRecDepth 100000 in
theorem lifted (os : Os) (started : os.Started) (H : Type) (enc : TypeId × Value → H) :
    ReturnsInHanded {} Try.checked os 4 .any (Rows.muxCallsSpec.pre6 enc Try.prog Try.f4 Rows.muxCallsRow.domain false) (Rows.muxCallsSpec.post enc Try.prog Try.f4 false true false false) := by
  refine returnsInHanded_of_change (C := Try.checked) own started (by kernel_rfl) Try.func4
    (ChangeSpec.witness6 (enc := enc) (C := Try.checked) false ⟨#[], #[.slice none 0 0, .agg #[.int .u32 0, .int .u32 0, .int .u64 0, .int .u64 0, .int .u64 0, .int .u64 0, .int .u64 0, .int .u64 0, .int .u64 0]], []⟩ 8 (by kernel_rfl) (by kernel_rfl) (by kernel_rfl) (by kernel_rfl)) ?_
  intro W base args ds gs before hval0 hW hcnd _
  have hval : ∀ (j : Nat) t v, Try.f4.params[j]? = some t → args[j]? = some v → Value.okWide Try.prog W .any base t v := hval0
  have hW' := hW
  obtain ⟨p, q, hA0, hV, rfl, hfz, hnd⟩ := hW
  have hA : DataW.TrodAll enc Try.prog W 0 (fun _ => true) true Try.f4.params.toList args.toList ds p := hA0
  rw [Try.params4] at hA hval
  obtain ⟨v0, vs0, d0, ds0, p0, q0, hargs, rfl, rfl, h0, r0⟩ := trodAll_cons hA
  obtain ⟨v1, vs1, d1, ds1, p1, q1, rfl, rfl, rfl, h1, r1⟩ := trodAll_cons r0
  obtain ⟨rfl, rfl, rfl⟩ := trodAll_nil r1
  obtain rfl : args = #[v0, v1] := by cases args; simp_all
  obtain ⟨rfl, rfl⟩ := trodVars_none hV
  have k0 := h0
  have lt0 : ∀ x ∈ p0, x.block < W.heap.size := by obtain ⟨m, hm⟩ := k0; exact DataW.trod_lt m _ _ _ hm
  have k1 := h1
  have lt1 : ∀ x ∈ p1, x.block < W.heap.size := by obtain ⟨m, hm⟩ := k1; exact DataW.trod_lt m _ _ _ hm
  obtain ⟨a0, len0, cap0, rfl⟩ := okWide_slice Try.underlying22 (hval 0 22 v0 rfl rfl)
  obtain ⟨g0, w0⟩ := open_rows h0
  obtain ⟨g1, rfl, w1⟩ := open_rec (hval 1 51 v1 rfl rfl) h1
  clear hA0 hval0
  refine (walk_MuxCalls (w0 := W) a0 len0 cap0 g0 w0 g1 w1).mono fun e W' ⟨he, bel⟩ => ?_
  subst he
  exact ⟨_, rfl, _, _, _, [], _, [], hW', trodAll_mk1 (shut_bool Try.underlying4 _), (trodAll_cons_mk (Below.trod laidOut (by kernel_rfl) (of_decide_eq_true (by kernel_rfl)) k0 bel lt0) (trodAll_cons_mk (Below.trod laidOut (by kernel_rfl) (of_decide_eq_true (by kernel_rfl)) k1 bel lt1) trodAll_mk0)), rfl, bel.frame _, fun h => by cases h⟩

theorem over : Rows.muxCallsRow.holds Try.pinned (OpenSpec.ofChange Rows.muxCallsSpec) :=
  OpenClaim.holds_of_wide 4 Try.f4 rfl rfl rfl rfl rfl rfl rfl ⟨rfl, rfl, rfl, rfl, rfl⟩ rfl rfl rfl rfl rfl (by kernel_rfl) Try.func4 (by kernel_rfl)
    (of_decide_eq_true (by kernel_rfl)) (by unfold Func.isWrapper; first | (rw [if_pos (by decide +kernel)]; kernel_rfl) | (rw [if_neg (by decide +kernel)]; exact ⟨rfl, rfl⟩))
    (fun os started H enc _ => lifted os started H enc)
end muxCallsRow

theorem muxCalls_proved : Rows.MuxCallsSaid := muxCallsRow.over
#print axioms muxCalls_proved
end Go.Proofs.Ytlninlempefjcaa
