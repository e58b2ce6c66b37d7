/-
  The contract of the law's own awake: it returns true, whatever lies in memory; and word.Get's answer for whatever it is asked.
-/
import Derived.Test.YtdkmomdekngpnabWb
import Derived.Test.YtdkmomdekngpnabWc
namespace Go.Proofs.Ytdkmomdekngpnab
open Go.RowKit

theorem flt_ok {n at_ wd : Int} (h : flt n at_ wd = 0) : (wd = 1 ∨ wd = 2 ∨ wd = 4 ∨ wd = 8) ∧ 0 ≤ at_ ∧ at_ ≤ n - wd := by
  unfold flt at h
  split at h
  · split at h
    · cases h
    · omega
  · cases h
theorem awake_byt (w : World) : Byt (w.alloc (.cells #[.int .u8 1, .int .u8 2, .int .u8 3, .int .u8 4] 5)) (w.heap.size + 1) (some ⟨w.heap.size, 0, none⟩) 4 4 (fun i => i + 1) :=
  Byt.mk_ (by omega) (by decide) (by decide) (fun i hi => by
    match i, hi with
    | 0, _ => exact ⟨by simp, by decide⟩
    | 1, _ => exact ⟨by simp, by decide⟩
    | 2, _ => exact ⟨by simp, by decide⟩
    | 3, _ => exact ⟨by simp, by decide⟩)
end Go.Proofs.Ytdkmomdekngpnab
