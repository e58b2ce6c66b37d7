/-
  Contracts of the laws' own of and told of layer 2, and of the reference's Write: the same instructions in another type; whether two rows of instructions are the same; the bytes of instructions by definition.
-/
import Derived.Test.YtmndolojfdekdaaIb
import Derived.Deep.RegionHeld3
namespace Go.Proofs.Ytmndolojfdekdaa
open Go.RowKit

/-- An append of cells as a step of a region that draws its order. -/
theorem step_cells2 {P : Program} {w : World} {ops : Array Oper} {o : Oper} {a : Act} {K : Act → World → Prop} {Q : Exit → Act → World → Prop} {R : Prop} (hgd : o.guard = none) (s x : Operand) (t E : TypeId)
    (ho : o.op = .call { callee := .builtin .append, args := #[s, x], argTypes := #[t, t] })
    (ht : P.underlying t = some (.slice E)) {zv : Value} {z by_ : Nat} (hinfo : (P.info? E).map (fun i => (i.zero, i.size, i.bytes)) = some (some zv, z, by_)) (hzs : zv.cells.size = z) (hz : 0 < z)
    {base n c m d : Nat} {A C : Option Addr} {F G : Nat → Value} (hs : a.eval s = .slice A n c) (hown : OwnC w base E z A n c F) (hx : a.eval x = .slice C m d) {B : Nat} (hr : Cel w B z C m d G) (h1c : ∀ i, i < m * z → (G i).oneCell' = true)
    (hn : n + m ≤ maxLen) (hby : (n + m) * by_ ≤ 140737488355328) (hbase : base ≤ w.heap.size) (N : Nat) (hN : n + m = N) (H : Nat → Value) (hH : ∀ i, i < N * z → catC (n * z) F G i = H i)
    (h : ∀ A' c' w', OwnC w' base E z A' N c' H → Below base w w' → K (a.put o.dst (.slice A' N c')) w') :
    if Region.wanted o (yielded ops a.tmps) = true then Oper.wp P o a w K Q else R := by
  subst hN
  have hw : Region.wanted o (yielded ops a.tmps) = true := by simp [Region.wanted, hgd]
  rw [if_pos hw]
  exact wp_cells w s x t E ho ht hinfo hzs hz hs hown hx hr h1c hn hby hbase fun A' c' w' h1 _ h3 => h A' c' w' (h1.congr hH) h3
theorem infoI : (Try.prog.info? 71).map (fun i => (i.zero, i.size, i.bytes)) = some (some (.agg #[.int .u16 0, .int .u8 0, .int .u8 0, .int .u32 0]), 4, 8) := by kernel_rfl
theorem one_inst (w : World) (v : IV) (E : TypeId) : Cel (w.alloc (.cells #[.int .u16 v.c, .int .u8 v.t, .int .u8 v.f, .int .u32 v.k] E)) (w.heap.size + 1) 4 (some ⟨w.heap.size, 0, none⟩) 1 1 (icell fun _ => v) :=
  Cel.mk_ (by omega) (by decide) (by decide) (fun i hi => by
    match i, hi with
    | 0, _ => simp [icell]
    | 1, _ => simp [icell]
    | 2, _ => simp [icell]
    | 3, _ => simp [icell])
theorem icell_cat (g : Nat → IV) (k : Nat) : ∀ i, i < (k + 1) * 4 → catC (k * 4) (icell g) (icell fun _ => g k) i = icell g i := fun i hi => by
  unfold catC; split
  · rfl
  · unfold icell
    have e1 : (i - k * 4) % 4 = i % 4 := by omega
    have e2 : i / 4 = k := by omega
    rw [e1, e2]

/-- An append of bytes as a step of a region that draws its order, the length and the bytes told anew. -/
theorem step_bytes3 {P : Program} {w : World} {ops : Array Oper} {o : Oper} {a : Act} {K : Act → World → Prop} {Q : Exit → Act → World → Prop} {R : Prop} (hgd : o.guard = none) (s x : Operand) (t E : TypeId)
    (ho : o.op = .call { callee := .builtin .append, args := #[s, x], argTypes := #[t, t] })
    (ht : P.underlying t = some (.slice E)) (hinfo : (P.info? E).map (fun i => (i.zero, i.size, i.bytes)) = some (some (.int .u8 0), 1, 1))
    {base n c m d : Nat} {A C : Option Addr} {f g : Nat → Nat} (hs : a.eval s = .slice A n c) (hown : Own_ w base E A n c f) (hx : a.eval x = .slice C m d) {B : Nat} (hr : Byt w B C m d g)
    (hn : n + m ≤ 140737488355328) (hbase : base ≤ w.heap.size) (N : Nat) (hN : n + m = N) (G : Nat → Nat) (hG : ∀ i, i < N → cat n f g i = G i)
    (h : ∀ A' c' w', Own_ w' base E A' N c' G → Below base w w' → K (a.put o.dst (.slice A' N c')) w') :
    if Region.wanted o (yielded ops a.tmps) = true then Oper.wp P o a w K Q else R := by
  subst hN
  exact step_bytes hgd s x t E ho ht hinfo hs hown hx hr hn hbase fun A' c' w' h1 _ h3 => h A' c' w' (h1.congr hG) h3
theorem Own_drew {w : World} {base n c : Nat} {E : TypeId} {A : Option Addr} {g : Nat → Nat} (h : Own_ w base E A n c g) : Own_ w.drew base E A n c g := h
theorem Byt_drew {w : World} {B n c : Nat} {A : Option Addr} {g : Nat → Nat} (h : Byt w B A n c g) : Byt w.drew B A n c g := h
theorem eight_new (w : World) (x0 x1 x2 x3 x4 x5 x6 x7 : Int) (h : Nat → Nat) (t : TypeId) (e0 : x0 = h 0) (e1 : x1 = h 1) (e2 : x2 = h 2) (e3 : x3 = h 3) (e4 : x4 = h 4) (e5 : x5 = h 5) (e6 : x6 = h 6) (e7 : x7 = h 7) (hl : ∀ i, i < 8 → h i < 256) :
    Byt (w.alloc (.cells #[.int .u8 x0, .int .u8 x1, .int .u8 x2, .int .u8 x3, .int .u8 x4, .int .u8 x5, .int .u8 x6, .int .u8 x7] t)) (w.heap.size + 1) (some ⟨w.heap.size, 0, none⟩) 8 8 h := by
  subst e0 e1 e2 e3 e4 e5 e6 e7
  refine Byt.mk_ (by omega) (by decide) (by decide) (fun i hi => ⟨?_, hl i hi⟩)
  match i, hi with
  | 0, _ => simp
  | 1, _ => simp
  | 2, _ => simp
  | 3, _ => simp
  | 4, _ => simp
  | 5, _ => simp
  | 6, _ => simp
  | 7, _ => simp
theorem ib_a (x : Nat) : IntKind.u8.wrap ((x : Int).tmod 256) = ((x % 256 : Nat) : Int) := by
  rw [IntKind.wrap_u8', Int.tmod_eq_emod_of_nonneg (by omega)]; omega
theorem ib_div (x : Nat) (d : Int) (hd : 1 ≤ d) (h : x < 4294967296) : 0 ≤ (x : Int) / d ∧ (x : Int) / d ≤ 4294967295 :=
  ⟨Int.ediv_nonneg (by omega) (by omega), Int.le_trans (Int.ediv_le_self d (by omega)) (by omega)⟩
theorem ib_b (x : Nat) (d : Int) (hd : 1 ≤ d) (h : x < 4294967296) : IntKind.u8.wrap (IntKind.i64.wrap ((x : Int) / d)) = (x : Int) / d % 256 := by
  have := ib_div x d hd h
  generalize (x : Int) / d = y at *
  rw [IntKind.wrap_i64, IntKind.wrap_u8']; omega
theorem ib_c (x : Nat) (d : Int) (hd : 1 ≤ d) (h : x < 4294967296) : IntKind.u8.wrap ((IntKind.i64.wrap ((x : Int) / d)).tmod 256) = (x : Int) / d % 256 := by
  have := ib_div x d hd h
  generalize (x : Int) / d = y at *
  rw [IntKind.wrap_i64, IntKind.wrap_u8', Int.tmod_eq_emod_of_nonneg (by omega)]; omega
theorem ibytes_lt (v : IV) (h : v.ok) (i : Nat) : ibytes v i < 256 := by
  obtain ⟨_, h2, h3, _⟩ := h
  unfold ibytes
  split
  · exact Nat.mod_lt _ (by decide)
  · split
    · exact h2
    · split
      · exact h3
      · exact Nat.mod_lt _ (by decide)

end Go.Proofs.Ytmndolojfdekdaa
