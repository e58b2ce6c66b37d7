/-
  What is done with an instruction of any kind: the map of the doings, and each of them by its contract.
-/
import Derived.Test.YtmndolojfdekdaaVf
import Derived.Test.YtmndolojfdekdaaVx
import Derived.Test.YtmndolojfdekdaaVy
import Derived.Test.YtmndolojfdekdaaVp
import Derived.Test.YtmndolojfdekdaaMem
namespace Go.Proofs.Ytmndolojfdekdaa
open Go.RowKit

/-- The doings, by the kinds' numbers. -/
def fnL : List Nat := [120, 121, 122, 123, 124, 125, 126, 127, 128, 129, 130, 131, 132, 133, 134, 135, 136, 137, 138, 139, 140, 141, 142, 143, 144, 145, 146, 147]
def fnOf (j : Nat) : Nat := fnL.getD (j - 1) 0
def doKV : List (Int × Value) := [(1, .func (.func 120) #[] #[]), (2, .func (.func 121) #[] #[]), (3, .func (.func 122) #[] #[]), (4, .func (.func 123) #[] #[]), (5, .func (.func 124) #[] #[]), (6, .func (.func 125) #[] #[]), (7, .func (.func 126) #[] #[]), (8, .func (.func 127) #[] #[]), (9, .func (.func 128) #[] #[]), (10, .func (.func 129) #[] #[]), (11, .func (.func 130) #[] #[]), (12, .func (.func 131) #[] #[]), (13, .func (.func 132) #[] #[]), (14, .func (.func 133) #[] #[]), (15, .func (.func 134) #[] #[]), (16, .func (.func 135) #[] #[]), (17, .func (.func 136) #[] #[]), (18, .func (.func 137) #[] #[]), (19, .func (.func 138) #[] #[]), (20, .func (.func 139) #[] #[]), (21, .func (.func 140) #[] #[]), (22, .func (.func 141) #[] #[]), (23, .func (.func 142) #[] #[]), (24, .func (.func 143) #[] #[]), (25, .func (.func 144) #[] #[]), (26, .func (.func 145) #[] #[]), (27, .func (.func 146) #[] #[]), (28, .func (.func 147) #[] #[])]
theorem doKV_at : ∀ i : Nat, i < 28 → assocV doKV ((i : Int) + 1) = some (.func (.func (fnOf (i + 1))) #[] #[]) := fun i hi =>
  match i, hi with
  | 0, _ => by kernel_rfl
  | 1, _ => by kernel_rfl
  | 2, _ => by kernel_rfl
  | 3, _ => by kernel_rfl
  | 4, _ => by kernel_rfl
  | 5, _ => by kernel_rfl
  | 6, _ => by kernel_rfl
  | 7, _ => by kernel_rfl
  | 8, _ => by kernel_rfl
  | 9, _ => by kernel_rfl
  | 10, _ => by kernel_rfl
  | 11, _ => by kernel_rfl
  | 12, _ => by kernel_rfl
  | 13, _ => by kernel_rfl
  | 14, _ => by kernel_rfl
  | 15, _ => by kernel_rfl
  | 16, _ => by kernel_rfl
  | 17, _ => by kernel_rfl
  | 18, _ => by kernel_rfl
  | 19, _ => by kernel_rfl
  | 20, _ => by kernel_rfl
  | 21, _ => by kernel_rfl
  | 22, _ => by kernel_rfl
  | 23, _ => by kernel_rfl
  | 24, _ => by kernel_rfl
  | 25, _ => by kernel_rfl
  | 26, _ => by kernel_rfl
  | 27, _ => by kernel_rfl
  | n + 28, h => absurd h (by omega)
theorem doing_any (f : Nat → Nat) (v : IV) (s : VS) (b B : Nat) (A2 : Option Addr) (c2 : Nat) (w : World) (hst : StB w b B s (.slice A2 64 c2)) (hbB : b < B) (hB : B ≤ w.heap.size) (hs : s.ok) (hv : v.ok) (hn : s.nx < 1000000)
    (hby : Byt w w.heap.size A2 64 c2 f) (hl : s.ld.length ≤ 1000000) (j : Nat) (h0 : 1 ≤ j) (h28 : j ≤ 28) (hl1 : j = 1 → v.k + 4 ≤ 64) (hc : j = 3 ∨ j = 6 ∨ j = 8 ∨ j = 9 → v.k < 16) :
    Calls Try.prog (fnOf j) #[.pointer (some ⟨b, 0, none⟩), .agg (knA v)] w (Post b B (.slice A2 64 c2) w (doK f j v s (oth v s))) := by
  match j, h0, h28 with
  | 1, _, _ => exact m1_any f v s b B A2 c2 w _ hst hbB hB (hl1 rfl) hby hl
  | 2, _, _ => exact m2_any f v s b B _ w _ hst hbB hB
  | 3, _, _ => exact m3_any f v s b B _ w _ hst hbB hB (hc (by decide))
  | 4, _, _ => exact m4_any f v s b B _ w _ hst hbB hB
  | 5, _, _ => exact m5_any f v s b B _ w _ hst hbB hB
  | 6, _, _ => exact m6_any f v s b B _ w _ hst hbB hB (hc (by decide))
  | 7, _, _ => exact m7_any f v s b B _ w _ hst hbB hB
  | 8, _, _ => exact m8_any f v s b B _ w _ hst hbB hB (hc (by decide))
  | 9, _, _ => exact m9_any f v s b B _ w _ hst hbB hB (hc (by decide))
  | 10, _, _ => exact m10_any f v s b B _ w _ hst hbB hB
  | 11, _, _ => exact m11_any f v s b B _ w _ hst hbB hB
  | 12, _, _ => exact m12_any f v s b B _ w _ hst hbB hB hs.1
  | 13, _, _ => exact m13_any f v s b B _ w _ hst hbB hB hv hn
  | 14, _, _ => exact m14_any f v s b B _ w _ hst hB
  | 15, _, _ => exact m15_any f v s b B _ w _ hst hB
  | 16, _, _ => exact m16_any f v s b B _ w hst hbB hB hs hv
  | 17, _, _ => exact m17_any f v s b B _ w hst hbB hB hs hv
  | 18, _, _ => exact m18_any f v s b B _ w hst hbB hB hs hv
  | 19, _, _ => exact m19_any f v s b B _ w hst hbB hB hs hv
  | 20, _, _ => exact m20_any f v s b B _ w hst hbB hB hs hv
  | 21, _, _ => exact m21_any f v s b B _ w hst hbB hB hs hv
  | 22, _, _ => exact m22_any f v s b B _ w hst hbB hB hs hv
  | 23, _, _ => exact m23_any f v s b B _ w hst hbB hB hs hv
  | 24, _, _ => exact m24_any f v s b B _ w hst hbB hB hs hv
  | 25, _, _ => exact m25_any f v s b B _ w hst hbB hB hs hv hn
  | 26, _, _ => exact m26_any f v s b B _ w hst hbB hB hs hv hn
  | 27, _, _ => exact m27_any f v s b B _ w hst hbB hB hs hv hn
  | 28, _, _ => exact m28_any f v s b B _ w hst hbB hB hs hv hn
  | n + 29, _, h => exact absurd h (by omega)

end Go.Proofs.Ytmndolojfdekdaa
