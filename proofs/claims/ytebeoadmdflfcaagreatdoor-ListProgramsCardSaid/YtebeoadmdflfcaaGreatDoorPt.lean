/-
  Lines behind one another, and strings.Split at them; a row of instructions grown by what is read.
-/
import Derived.Test.YtebeoadmdflfcaaGreatDoorIv
import Derived.Lib.SplitLaws
import Derived.Lib.IndexBytes
import Derived.Lib.IndexLaws
namespace Go.Proofs.YtebeoadmdflfcaaGreatDoor
open Go.RowKit

/-- Lines, each with its end. -/
def joinL (L : List (List UInt8)) : List UInt8 := (L.map (· ++ [10])).flatten
theorem joinL_snoc (L : List (List UInt8)) (x : List UInt8) : joinL (L ++ [x]) = joinL L ++ (x ++ [10]) := by
  unfold joinL
  rw [List.map_append, List.flatten_append]
  simp
theorem joinL_app (L M : List (List UInt8)) : joinL (L ++ M) = joinL L ++ joinL M := by
  unfold joinL
  rw [List.map_append, List.flatten_append]
theorem joinL_cons (x : List UInt8) (L : List (List UInt8)) : joinL (x :: L) = x ++ 10 :: joinL L := by
  unfold joinL
  simp
theorem indexByte_at : ∀ (x r : List UInt8), (∀ c ∈ x, c ≠ 10) → Lib.indexByte (x ++ 10 :: r) 10 = (x.length : Int) := by
  intro x
  induction x with
  | nil => intro r _; simp [Lib.indexByte]
  | cons b l ih =>
    intro r h
    have h1 := ih r fun c hc => h c (List.mem_cons_of_mem _ hc)
    have h2 : (b == 10) = false := beq_eq_false_iff_ne.2 (h b List.mem_cons_self)
    rw [List.cons_append, Lib.indexByte, h2, h1]
    have h3 : ((l.length : Int) == -1) = false := beq_eq_false_iff_ne.2 (by omega)
    rw [h3]
    simp
theorem splitK_lines : ∀ (L : List (List UInt8)), (∀ x ∈ L, ∀ c ∈ x, c ≠ 10) → Lib.splitK [10] 0 L.length (joinL L) = L ++ [[]] := by
  intro L
  induction L with
  | nil => intro _; rfl
  | cons x L ih =>
    intro h
    have h1 := indexByte_at x (joinL L) fun c hc => h x List.mem_cons_self c hc
    have h2 := ih fun y hy => h y (List.mem_cons_of_mem _ hy)
    rw [joinL_cons, List.length_cons, Lib.splitK, Lib.index_one, h1]
    have h3 : ((x.length : Int) == -1) = false := beq_eq_false_iff_ne.2 (by omega)
    rw [h3]
    simp only [Bool.false_eq_true, if_false, Int.toNat_natCast, Nat.add_zero, List.length_cons, List.length_nil, List.cons_append]
    rw [List.take_left' rfl, show x ++ 10 :: joinL L = (x ++ [10]) ++ joinL L by simp, List.drop_left' (by simp), h2]
theorem count_lines : ∀ (L : List (List UInt8)), (∀ x ∈ L, ∀ c ∈ x, c ≠ 10) → (joinL L).count 10 = L.length := by
  intro L
  induction L with
  | nil => intro _; rfl
  | cons x L ih =>
    intro h
    have h1 : x.count 10 = 0 := List.count_eq_zero.2 fun hc => h x List.mem_cons_self 10 hc rfl
    rw [joinL_cons, List.count_append, List.count_cons_self, h1, ih fun y hy => h y (List.mem_cons_of_mem _ hy), List.length_cons]
    omega
theorem joinL_len (L : List (List UInt8)) (m : Nat) (h : ∀ x ∈ L, x.length ≤ m) : (joinL L).length ≤ L.length * (m + 1) := by
  induction L with
  | nil => simp [joinL]
  | cons x L ih =>
    have h1 := ih fun y hy => h y (List.mem_cons_of_mem _ hy)
    have h2 := h x List.mem_cons_self
    rw [joinL_cons, List.length_append, List.length_cons, List.length_cons, Nat.add_mul]
    omega
/-- strings.Split's pieces of lines. -/
theorem splitB_lines (L : List (List UInt8)) (h : ∀ x ∈ L, ∀ c ∈ x, c ≠ 10) :
    Lib.countB ⟨(joinL L).toArray⟩ ⟨#[10]⟩ = L.length ∧ Lib.splitB ⟨#[10]⟩ 0 L.length ⟨(joinL L).toArray⟩ = (L ++ [[]]).map fun x : List UInt8 => (⟨x.toArray⟩ : ByteArray) := by
  constructor
  · show Lib.count (joinL L).toArray.toList [10] = _
    rw [Lib.count_one, List.toList_toArray, count_lines L h]
  · have h1 := Lib.splitB_data ⟨#[10]⟩ 0 L.length ⟨(joinL L).toArray⟩
    have h2 : (⟨(joinL L).toArray⟩ : ByteArray).data.toList = joinL L := by simp
    rw [h2, show (⟨#[10]⟩ : ByteArray).data.toList = [10] from rfl, splitK_lines L h] at h1
    have h3 : ∀ l : List ByteArray, (l.map fun s => s.data.toList).map (fun x : List UInt8 => (⟨x.toArray⟩ : ByteArray)) = l := fun l => by
      rw [List.map_map]
      refine (List.map_congr_left fun s _ => ?_).trans (List.map_id l)
      exact ByteArray.ext (by simp)
    rw [← h3 (Lib.splitB _ _ _ _), h1]
/-- What is read so far. -/
def accL (rs : Nat → IV) (xs : Nat → Int) : Nat → List IV
  | 0 => []
  | q + 1 => if xs q = 0 then accL rs xs q ++ [rs q] else accL rs xs q
def gOf (l : List IV) (i : Nat) : IV := l.getD i ⟨0, 0, 0, 0⟩
theorem accL_len (rs : Nat → IV) (xs : Nat → Int) : ∀ q, (accL rs xs q).length ≤ q := by
  intro q
  induction q with
  | zero => simp [accL]
  | succ q ih =>
    unfold accL
    split
    · simp; omega
    · omega
theorem accL_all (rs : Nat → IV) (xs : Nat → Int) : ∀ q, (∀ i, i < q → xs i = 0) → accL rs xs q = (List.range q).map rs := by
  intro q
  induction q with
  | zero => intro _; rfl
  | succ q ih =>
    intro h
    rw [accL, if_pos (h q (by omega)), ih fun i hi => h i (by omega), List.range_succ, List.map_append]
    rfl
theorem gOf_map (rs : Nat → IV) (q i : Nat) (hi : i < q) : gOf ((List.range q).map rs) i = rs i := by
  unfold gOf
  rw [List.getD_eq_getElem?_getD, List.getElem?_map, List.getElem?_range hi]
  rfl
theorem icell_gcat (l : List IV) (v : IV) : ∀ i, i < (l.length + 1) * 4 → catC (l.length * 4) (icell (gOf l)) (icell fun _ => v) i = icell (gOf (l ++ [v])) i := fun i hi => by
  unfold catC; split
  · have e2 : i / 4 < l.length := by omega
    have e : gOf (l ++ [v]) (i / 4) = gOf l (i / 4) := by
      unfold gOf
      rw [List.getD_eq_getElem?_getD, List.getD_eq_getElem?_getD, List.getElem?_append_left e2]
    unfold icell
    rw [e]
  · have e1 : (i - l.length * 4) % 4 = i % 4 := by omega
    have e2 : i / 4 = l.length := by omega
    have e : gOf (l ++ [v]) (i / 4) = v := by
      unfold gOf
      rw [e2, List.getD_eq_getElem?_getD, List.getElem?_append_right (Nat.le_refl _), Nat.sub_self]
      rfl
    unfold icell
    rw [e, e1]
theorem icell_gcongr (l : List IV) (g : Nat → IV) (n : Nat) (h : ∀ i, i < n → gOf l i = g i) : ∀ i, i < n * 4 → icell (gOf l) i = icell g i := fun i hi => by
  unfold icell
  rw [h (i / 4) (by omega)]
theorem one_instK (w : World) (k : Nat) (hk : k = w.heap.size) (v : IV) (E : TypeId) : Cel (w.alloc (.cells #[.int .u16 v.c, .int .u8 v.t, .int .u8 v.f, .int .u32 v.k] E)) (w.heap.size + 1) 4 (some ⟨k, 0, none⟩) 1 1 (icell fun _ => v) := by
  subst hk
  exact one_inst w v E
end Go.Proofs.YtebeoadmdflfcaaGreatDoor
