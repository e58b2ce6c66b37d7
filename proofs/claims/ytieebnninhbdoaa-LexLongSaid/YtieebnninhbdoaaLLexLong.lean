/-
  For every number: a text of so many lines without words, up to 2^16 bytes and a few more, has no line that counts; with more than 2^16 bytes it is too long.
-/
import Derived.Test.YtieebnninhbdoaaTi
import Derived.Test.YtieebnninhbdoaaRows
import Derived.WideShapes
import Derived.ChangeShapes
import Derived.ProofKit
import Derived.OpenShut
import Derived.ShutString
import Derived.ChangeOld
import Derived.Below
import Derived.Lib.SmallJoins
namespace Go.Proofs.Ytieebnninhbdoaa
open Go.RowKit

theorem infoB : (Try.prog.info? 5).map (fun i => (i.zero, i.size, i.bytes)) = some (some (.int .u8 0), 1, 1) := by kernel_rfl
theorem mk_bytes (m : Nat) (hm : m ≤ 1000000) (w : World) : ∃ W', (Instr.makeSlice 37 (.int .i64 (m : Int)) (.int .i64 (m : Int))).run Try.prog w = .ok (.slice (some ⟨w.heap.size, 0, none⟩) m m) W' ∧
    Own_ W' w.heap.size 5 (some ⟨w.heap.size, 0, none⟩) m m (fun _ => 0) ∧ Below w.heap.size w W' := by
  obtain ⟨i0, hi0, hz0, hz1, hz2⟩ := info_parts infoB
  have hr := run_make (P := Try.prog) w 37 5 i0 _ Try.underlying37 hi0 hz0 .i64 .i64 m m (by omega) (Int.le_refl _) (by rw [hz2]; omega) (by omega)
  rw [hz1] at hr
  simp only [Int.toNat_natCast, Nat.mul_one] at hr
  refine ⟨_, hr, ⟨?_, fun i _ => (by show 0 < 256; decide)⟩, (Below.refl _ _).alloc (Nat.le_refl _) _⟩
  have hl := World.ownsRow_lit (base := w.heap.size) (e := 5) (size := 1) w (madeCells (Value.int .u8 0).cells m) m (Nat.le_refl _) (by unfold maxLen; omega) (by rw [size_madeCells, Nat.mul_one])
  have e : (madeCells (Value.int .u8 0).cells m).toList = (List.range m).map (fun _ => bv 0) := by
    apply List.ext_getElem (by simp [madeCells])
    intro i h1 h2
    simp [madeCells, Value.cells, Nat.mod_one]
  rw [e] at hl
  exact hl

/-- n bytes as a string. -/
def sbytes (n : Nat) (f : Nat → Nat) : ByteArray := ((List.range n).map f).foldl (fun r x => r.push (UInt8.ofNat x)) ByteArray.empty
theorem str_of_byt {P : Program} {w : World} {src dst e : TypeId} (hs : P.underlying src = some (.slice e)) (he : P.underlying e = some (.int .u8)) (hd : P.underlying dst = some .string)
    {B n c : Nat} {A : Option Addr} {f : Nat → Nat} (h : Byt w B A n c f) : (convert src dst (.slice A n c)).run P w = .ok (.string (sbytes n f)) w := by
  rw [run_convert_bytes_string w src dst e A n c hs he hd]
  rcases h with ⟨rfl, rfl, rfl⟩ | ⟨ad, rfl, h1, h2, hc⟩
  · simp [Conv.bytesToString, sbytes, Sem.run_pure]
  · have hl := run_loadCells (P := P) w ad n (fun i => bv (f i)) (fun j hj => (hc j hj).2.1)
    have e1 : ((List.range n).map fun i => bv (f i)) = ((List.range n).map fun i => (f i : Int)).map (Value.int .u8) := by simp [bv]
    rw [e1] at hl
    rw [run_bytesToString w ad n c _ hl]
    congr 2
    unfold sbytes
    rw [List.foldl_map, List.foldl_map]
    simp

theorem push_data (l : List Nat) : ∀ (r : ByteArray), (l.foldl (fun r x => r.push (UInt8.ofNat x)) r).data.toList = r.data.toList ++ l.map UInt8.ofNat := by
  induction l with
  | nil => intro r; simp
  | cons x l ih =>
    intro r
    rw [List.foldl_cons, ih]
    simp [ByteArray.push]
theorem sbytes_ten (n : Nat) : (sbytes n fun _ => 10).data.toList = List.replicate n 10 := by
  unfold sbytes
  rw [push_data]
  simp only [List.map_map, ByteArray.data_empty, List.nil_append]
  apply List.ext_getElem (by simp)
  intro i h1 h2
  simp
theorem lns_rep : ∀ n, lns (List.replicate n 10) = List.replicate (n + 1) []
  | 0 => rfl
  | n + 1 => by
    rw [List.replicate_succ, List.replicate_succ]
    show (if (10 : UInt8) = 10 then [] :: lns (List.replicate n 10) else _) = _
    rw [if_pos rfl, lns_rep n]
theorem scan_rep : ∀ m k, scan k (List.replicate m []) [] = ([], 0)
  | 0, _ => rfl
  | m + 1, k => by
    rw [List.replicate_succ]
    exact scan_rep m (k + 1)
theorem lines_rep (n : Nat) : linesF (List.replicate n 10) = ([], 0) := by
  unfold linesF
  rw [lns_rep]
  exact scan_rep _ _
theorem lines_ten (n : Nat) (hn : n ≤ 65536) (w : World) : Calls Try.prog 10 #[.string (sbytes n fun _ => 10)] w fun e w' => ∃ A c, e = .returned (.tuple #[.slice A 0 c, .int .i64 0, .int .i64 0]) ∧ Below w.heap.size w w' := by
  have hs : (sbytes n fun _ => 10).size = n := by
    have h := congrArg List.length (sbytes_ten n)
    rw [List.length_replicate, Array.length_toList] at h
    exact h
  refine (lines_any _ (by omega) w).mono fun e w' hh => ?_
  obtain ⟨hc, hb⟩ := hh
  rw [sbytes_ten, lines_rep] at hc
  rcases hc with ⟨_, A, c, ls, he, h1, _⟩ | ⟨h0, _⟩
  · have hl : ls = [] := by simpa using h1
    subst hl
    exact ⟨A, c, he, hb⟩
  · exact absurd rfl h0
theorem lines_tenl (n : Nat) (hn : 65536 < n) (w : World) : Calls Try.prog 10 #[.string (sbytes n fun _ => 10)] w fun e w' => ∃ A c, e = .returned (.tuple #[.slice A 0 c, .int .i64 0, .int .i64 3]) ∧ Below w.heap.size w w' := by
  have hs : (sbytes n fun _ => 10).size = n := by
    have h := congrArg List.length (sbytes_ten n)
    rw [List.length_replicate, Array.length_toList] at h
    exact h
  exact (lines_long _ (by omega) w).mono fun e w' ⟨h1, h2⟩ => ⟨none, 0, h1, h2⟩

set_option maxRecDepth 100000 in
set_option maxHeartbeats 4000000 in
theorem walk_LexLong {w0 : World} (a : Int) (ha : (Lit.int .u8 a).wf = true) : Calls Try.prog 6 #[.int .u8 a] w0 fun e w' => e = .returned (.bool true) ∧ Below w0.heap.size w0 w' := by
  simp [Lit.wf, IntKind.min, IntKind.max, IntKind.signed, IntKind.bits] at ha
  obtain ⟨a0, a1⟩ := ha
  obtain ⟨r, hr⟩ : ∃ r : Nat, a % 40 = (r : Int) := ⟨(a % 40).toNat, by omega⟩
  have hr39 : r ≤ 39 := by omega
  obtain ⟨w1, hmk, hown, hB1⟩ := mk_bytes (65516 + r) (by omega) w0
  have ec : ((65516 + r : Nat) : Int) = 65516 + (r : Int) := by omega
  rw [ec] at hmk
  have HB1 := Lib.hid hB1
  have HOW := Lib.hid hown
  clear ec hown hB1
  go_enter Try.func6, Try.ntmps6
  go_wp2
  go_loopw [5] (fun i wr => ∃ j : Nat, j ≤ 65516 + r ∧ i = .int .i64 j ∧ Own_ wr w0.heap.size 5 (some ⟨w0.heap.size, 0, none⟩) (65516 + r) (65516 + r) (fun i => if i < j then 10 else 0) ∧ Below w0.heap.size w0 wr) (fun i _ => 65516 + r - (intOf i).toNat)
  case atStart => exact ⟨0, Nat.zero_le _, rfl, HOW.out.congr (fun i _ => rfl), HB1.out⟩
  case round =>
    obtain ⟨j, hj, rfl, hown, hbw⟩ := hrel
    by_cases hlt : j < 65516 + r
    · have i1 : (j : Int) < 65516 + (r : Int) := by omega
      have i2 : (0 : Int) ≤ (j : Int) := by omega
      obtain ⟨b, hbe, _, hbl, hc⟩ := hown.byt_at (by omega)
      obtain rfl : w0.heap.size = b := by injection hbe with hbe; injection hbe
      obtain ⟨h1, h2, h3⟩ := hc j hlt
      have hset := hown.set_ hlt (u := 10) (by decide)
      have HS : Hid (Own_ (wr.setCell ⟨w0.heap.size, j, none⟩ (bv 10)) w0.heap.size 5 (some ⟨w0.heap.size, 0, none⟩) (65516 + r) (65516 + r) (fun i => if i < j + 1 then 10 else 0)) := Lib.hid (hset.congr fun i _ => by
        by_cases e : i = j
        · rw [if_pos e, if_pos (by omega)]
        · rw [if_neg e]
          by_cases e2 : i < j
          · rw [if_pos e2, if_pos (by omega)]
          · rw [if_neg e2, if_neg (by omega)])
      clear hset hc hown
      go_wp2
      refine ⟨⟨j + 1, hlt, by go_num, HS.out, hbw.setCell (p := ⟨w0.heap.size, j, none⟩) (Nat.le_refl _) _⟩, by simp [intOf]; omega⟩
    · obtain rfl : j = 65516 + r := by omega
      have i1 : ¬ (((65516 + r : Nat) : Int)) < 65516 + (r : Int) := by omega
      have hby : Byt wr wr.heap.size (some ⟨w0.heap.size, 0, none⟩) (65516 + r) (65516 + r) (fun _ => 10) := hown.byt.congr fun i hi => if_pos hi
      have hst := str_of_byt (P := Try.prog) Try.underlying37 Try.underlying5 Try.underlying9 hby
      by_cases hl : 20 < r
      · have HL := Lib.hid (fun W => lines_tenl (65516 + r) (by omega) W)
        have i2 : (65536 : Int) < 65516 + (r : Int) := by omega
        have i3 : decide ((65536 : Int) < 65516 + (r : Int)) = true := decide_eq_true i2
        clear hby hown
        go_wp2_with (first
          | (go_at_call 10; refine (HL.out _).mono ?_; rintro e w2 ⟨A2, c2, rfl, hB2⟩)
          | (go_at_call 13; refine (awake13_any _).mono ?_; rintro e w3 ⟨rfl, hB3⟩))
        go_ret
        have g1 := hbw.size
        have g2 := hB2.size
        exact ⟨rfl, (hbw.trans (hB2.mono g1)).trans (hB3.mono (by omega))⟩
      · have HL := Lib.hid (fun W => lines_ten (65516 + r) (by omega) W)
        have i2 : ¬ (65536 : Int) < 65516 + (r : Int) := by omega
        have i3 : decide ((65536 : Int) < 65516 + (r : Int)) = false := decide_eq_false i2
        clear hby hown
        go_wp2_with (first
          | (go_at_call 10; refine (HL.out _).mono ?_; rintro e w2 ⟨A2, c2, rfl, hB2⟩)
          | (go_at_call 13; refine (awake13_any _).mono ?_; rintro e w3 ⟨rfl, hB3⟩))
        go_ret
        have g1 := hbw.size
        have g2 := hB2.size
        exact ⟨rfl, (hbw.trans (hB2.mono g1)).trans (hB3.mono (by omega))⟩

namespace lexLongRow
open Go.ChangeShapes Go.WideShapes Go.ChangeAt Go.RowKit Go.Joins
open Go.ChangeMaps (open_string shut_string)
set_option linter.unusedVariables false
theorem own : ownKnob Try.prog.godebug = none := by kernel_rfl
theorem laidOut : laidOutB Try.prog = true := by kernel_rfl
set_option maxRecDepth 100000 in
theorem lifted (os : Os) (started : os.Started) (H : Type) (enc : TypeId × Value → H) :
    ReturnsInHanded {} Try.checked os 6 .any (Rows.lexLongSpec.pre6 enc Try.prog Try.f6 Rows.lexLongRow.domain false) (Rows.lexLongSpec.post enc Try.prog Try.f6 false true false false) := by
  refine returnsInHanded_of_change (C := Try.checked) own started (by kernel_rfl) Try.func6
    (ChangeSpec.witness6 (enc := enc) (C := Try.checked) false ⟨#[], #[.int .u8 0], []⟩ 8 (by kernel_rfl) (by kernel_rfl) (by kernel_rfl) (by kernel_rfl)) ?_
  intro W base args ds gs before hval0 hW hcnd _
  have hval : ∀ (j : Nat) t v, Try.f6.params[j]? = some t → args[j]? = some v → Value.okWide Try.prog W .any base t v := hval0
  have hW' := hW
  obtain ⟨p, q, hA0, hV, rfl, hfz, hnd⟩ := hW
  have hA : DataW.TrodAll enc Try.prog W 0 (fun _ => true) true Try.f6.params.toList args.toList ds p := hA0
  rw [Try.params6] at hA hval
  obtain ⟨v0, vs0, d0, ds0, p0, q0, hargs, rfl, rfl, h0, r0⟩ := trodAll_cons hA
  obtain ⟨rfl, rfl, rfl⟩ := trodAll_nil r0
  obtain rfl : args = #[v0] := by cases args; simp_all
  obtain ⟨rfl, rfl⟩ := trodVars_none hV
  have k0 := h0
  have lt0 : ∀ x ∈ p0, x.block < W.heap.size := by obtain ⟨m, hm⟩ := k0; exact DataW.trod_lt m _ _ _ hm
  obtain ⟨a0, rfl, rfl, rfl, w0⟩ := open_int Try.underlying5 (hval 0 5 v0 rfl rfl) h0
  clear hA0 hval0
  refine (walk_LexLong (w0 := W) a0 w0).mono fun e W' ⟨he, bel⟩ => ?_
  subst he
  exact ⟨_, rfl, _, _, _, [], _, [], hW', trodAll_mk1 (shut_bool Try.underlying4 _), (trodAll_cons_mk (Below.trod laidOut (by kernel_rfl) (of_decide_eq_true (by kernel_rfl)) k0 bel lt0) trodAll_mk0), rfl, bel.frame _, fun h => by cases h⟩

theorem over : Rows.lexLongRow.holds Try.pinned (OpenSpec.ofChange Rows.lexLongSpec) :=
  OpenClaim.holds_of_wide 6 Try.f6 rfl rfl rfl rfl rfl rfl rfl ⟨rfl, rfl, rfl, rfl, rfl⟩ rfl rfl rfl rfl rfl (by kernel_rfl) Try.func6 (by kernel_rfl)
    (of_decide_eq_true (by kernel_rfl)) (by unfold Func.isWrapper; first | (rw [if_pos (by decide +kernel)]; kernel_rfl) | (rw [if_neg (by decide +kernel)]; exact ⟨rfl, rfl⟩))
    (fun os started H enc _ => lifted os started H enc)
end lexLongRow

theorem lexLong_proved : Rows.LexLongSaid := lexLongRow.over
#print axioms lexLong_proved
end Go.Proofs.Ytieebnninhbdoaa
