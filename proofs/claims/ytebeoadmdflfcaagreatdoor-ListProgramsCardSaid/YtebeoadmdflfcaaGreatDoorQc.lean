/-
  The document's digits and Words.
-/
import Derived.Test.YtebeoadmdflfcaaGreatDoorQb
namespace Go.Proofs.YtebeoadmdflfcaaGreatDoor
open Go.RowKit Go.Shelf
set_option linter.unusedVariables false

set_option maxRecDepth 100000 in
set_option maxHeartbeats 8000000 in
theorem refDig_any (s : ByteArray) (hs : s.size ≤ 100000) (w : World) :
    Calls Tryz.prog 18 #[.string s] w fun e w' => e = .returned (.string ⟨(digF s.data.toList).toArray⟩) ∧ w' = w := by
  have hlen : s.data.toList.length = s.size := Array.length_toList
  have hse : s = ⟨s.data.toList.toArray⟩ := ByteArray.ext (by simp)
  obtain ⟨l, hl⟩ : ∃ l, s.data.toList = l := ⟨_, rfl⟩
  have HIX : Hid (∀ (p : Nat) (b : UInt8), l[p]? = some b → ∀ W, (Instr.index 9 (.string s) (.int .i64 p)).run Tryz.prog W = .ok (.int .u8 b.toNat) W) := Lib.hid fun p b h W => ixQ s p b (by rw [hl]; exact h) W
  have HEX : Hid (∀ a b, s.extract a b = ⟨((l.drop a).take (b - a)).toArray⟩) := Lib.hid fun a b => by
    conv => lhs; rw [hse]
    rw [hl, txt_extract]
  rw [hl] at hlen ⊢
  clear hl hse
  have HLN := Lib.hid hlen
  clear hlen
  go_enter Tryz.func18, Tryz.ntmps18
  go_wp2
  go_loopw [3] (fun i wr => ∃ q : Nat, q ≤ l.length ∧ i = .int .i64 q ∧ (∀ b ∈ l.take q, isDg b = false) ∧ wr = w) (fun i _ => l.length - (intOf i).toNat)
  case atStart => exact ⟨0, Nat.zero_le _, rfl, by simp, rfl⟩
  case round =>
    obtain ⟨q, hq, rfl, hd, rfl⟩ := hrel
    have hrest : (q = l.length ∨ ∃ b, l[q]? = some b ∧ isDg b = true) ∨ ∃ b, l[q]? = some b ∧ isDg b = false := by
      by_cases hlt : q < l.length
      · cases hb : isDg l[q] with
        | true => exact .inl (.inr ⟨_, List.getElem?_eq_getElem hlt, hb⟩)
        | false => exact .inr ⟨_, List.getElem?_eq_getElem hlt, hb⟩
      · exact .inl (.inl (by omega))
    rcases hrest with hend | ⟨b, hb, hbd⟩
    · have HD := Lib.hid hd
      have HEND := Lib.hid hend
      clear hd hend
      have hc2 : (q = l.length) ∨ (∃ b : UInt8, l[q]? = some b ∧ 48 ≤ b.toNat ∧ b.toNat ≤ 57) := by
        rcases HEND.out with h | ⟨b, hb, hd⟩
        · exact .inl h
        · have := of_decide_eq_true hd
          exact .inr ⟨b, hb, this.1, this.2⟩
      have hLN : l.length ≤ s.size ∧ s.size ≤ l.length := by have := HLN.out; omega
      have HFIN : Hid (∀ r, q ≤ r → r ≤ l.length → (∀ b ∈ (l.drop q).take (r - q), isDg b = true) → (r = l.length ∨ ∃ b, l[r]? = some b ∧ isDg b = false) → (l.drop q).take (r - q) = digF l) := Lib.hid fun r h1 h2 h3 h4 => by
        have e : l = l.take q ++ ((l.drop q).take (r - q) ++ l.drop r) := by
          conv => lhs; rw [← List.take_append_drop q l, ← List.take_append_drop (r - q) (l.drop q), List.drop_drop, show q + (r - q) = r by omega]
        have hd0 : ∀ b, (l.drop r).head? = some b → isDg b = false := fun b hb => by
          rw [List.head?_drop] at hb
          rcases h4 with rfl | ⟨b', hb', hd'⟩
          · rw [List.getElem?_eq_none (Nat.le_refl _)] at hb; cases hb
          · rw [hb'] at hb; rw [← Option.some.inj hb]; exact hd'
        have hn0 : (l.drop q).take (r - q) = [] → l.drop r = [] := fun hnil => by
          have hlen0 := congrArg List.length hnil
          rw [List.length_take, List.length_drop] at hlen0
          simp only [List.length_nil] at hlen0
          have hrq : r = q := by omega
          subst hrq
          rcases HEND.out with h | ⟨b, hb, hd⟩
          · rw [h]; exact List.drop_eq_nil_iff.2 (Nat.le_refl _)
          · rcases h4 with h | ⟨b', hb', hd'⟩
            · rw [h]; exact List.drop_eq_nil_iff.2 (Nat.le_refl _)
            · rw [hb] at hb'; rw [Option.some.inj hb'] at hd; rw [hd] at hd'; cases hd'
        conv => rhs; rw [e]
        exact (digF_eq _ _ _ HD.out h3 hd0 hn0).symm
      clear HEND HD
      rcases hc2 with rfl | ⟨b, hb, hb1, hb2⟩
      · have k1 : ¬ (l.length : Int) < (s.size : Int) := by omega
        have k2 : decide ((l.length : Int) < (s.size : Int)) = false := decide_eq_false k1
        go_wp2
        go_loopw [4] (fun i wr2 => i = .int .i64 l.length ∧ wr2 = wr) (fun i _ => 0)
        case atStart => exact ⟨rfl, rfl⟩
        case round =>
          obtain ⟨rfl, rfl⟩ := hrel
          have HF := Lib.hid (HFIN.out l.length (Nat.le_refl _) (Nat.le_refl _) (by simp) (.inl rfl))
          have k3 : (0 : Int) ≤ (l.length : Int) := by omega
          have k4 : (l.length : Int) ≤ (l.length : Int) := by omega
          have k5 : (l.length : Int) ≤ (s.size : Int) := by omega
          clear HFIN HIX HEX
          go_wp2
          go_ret
          exact ⟨by rw [← HF.out, Nat.sub_self]; rfl, rfl⟩
      · have hix := HIX.out q b hb
        have hlt : q < l.length := (List.getElem?_eq_some_iff.1 hb).1
        have k1 : (q : Int) < (s.size : Int) := by omega
        have k2 : (0 : Int) ≤ (q : Int) := by omega
        have k3 : decide ((b.toNat : Int) < 48) = false := decide_eq_false (by omega)
        have k4 : decide ((b.toNat : Int) > 57) = false := decide_eq_false (by omega)
        go_wp2
        go_loopw [4] (fun i wr2 => ∃ r : Nat, q ≤ r ∧ r ≤ l.length ∧ i = .int .i64 r ∧ (∀ b ∈ (l.drop q).take (r - q), isDg b = true) ∧ wr2 = wr) (fun i _ => l.length - (intOf i).toNat)
        case atStart => exact ⟨q, Nat.le_refl _, hq, rfl, by simp, rfl⟩
        case round =>
          obtain ⟨r, hqr, hrl, rfl, hd, rfl⟩ := hrel
          have k3' : (0 : Int) ≤ (q : Int) := by omega
          have k4' : (q : Int) ≤ (r : Int) := by omega
          have k5 : (r : Int) ≤ (s.size : Int) := by omega
          by_cases hr : r < l.length
          · obtain ⟨x, hx⟩ : ∃ x, l[r]? = some x := ⟨_, List.getElem?_eq_getElem hr⟩
            have hix2 := HIX.out r x hx
            have k6 : (r : Int) < (s.size : Int) := by omega
            have k7 : (0 : Int) ≤ (r : Int) := by omega
            have hdec : isDg x = true ∨ (x.toNat < 48) ∨ (48 ≤ x.toNat ∧ 57 < x.toNat) := by
              by_cases h : isDg x = true
              · exact .inl h
              · have := of_decide_eq_false (by simpa using h : isDg x = false)
                omega
            rcases hdec with hdx | hlo | ⟨h1, h2⟩
            · have hxx := of_decide_eq_true hdx
              have k8 : decide ((x.toNat : Int) ≥ 48) = true := decide_eq_true (by omega)
              have k9 : decide ((x.toNat : Int) ≤ 57) = true := decide_eq_true (by omega)
              have HD2 : Hid (∀ b ∈ (l.drop q).take (r + 1 - q), isDg b = true) := Lib.hid fun y hy => by
                rw [show r + 1 - q = (r - q) + 1 by omega, List.take_add_one, List.getElem?_drop, show q + (r - q) = r by omega, hx, List.mem_append] at hy
                rcases hy with hy | hy
                · exact hd y hy
                · obtain rfl : y = x := by simpa using hy
                  exact hdx
              clear hix HFIN HIX HEX hd hx hdx hb
              go_wp2
              exact ⟨⟨r + 1, by omega, by omega, by go_num, HD2.out, by trivial⟩, by simp [intOf]; omega⟩
            · have k8 : decide ((x.toNat : Int) ≥ 48) = false := decide_eq_false (by omega)
              have HE2 := Lib.hid (HEX.out q r)
              have HF := Lib.hid (HFIN.out r hqr hrl hd (.inr ⟨x, hx, decide_eq_false (by omega)⟩))
              clear hix HFIN HIX HEX hd hx hb
              go_wp2
              go_ret
              refine ⟨?_, rfl⟩
              rw [HE2.out, HF.out]
              rfl
            · have k8 : decide ((x.toNat : Int) ≥ 48) = true := decide_eq_true (by omega)
              have k9 : decide ((x.toNat : Int) ≤ 57) = false := decide_eq_false (by omega)
              have HE2 := Lib.hid (HEX.out q r)
              have HF := Lib.hid (HFIN.out r hqr hrl hd (.inr ⟨x, hx, decide_eq_false (by omega)⟩))
              clear hix HFIN HIX HEX hd hx hb
              go_wp2
              go_ret
              refine ⟨?_, rfl⟩
              rw [HE2.out, HF.out]
              rfl
          · obtain rfl : r = l.length := by omega
            have k6 : decide ((l.length : Int) < (s.size : Int)) = false := decide_eq_false (by omega)
            have HE2 := Lib.hid (HEX.out q l.length)
            have HF := Lib.hid (HFIN.out l.length hqr hrl hd (.inl rfl))
            clear hix HFIN HIX HEX hd hb
            go_wp2
            go_ret
            refine ⟨?_, rfl⟩
            rw [HE2.out, HF.out]
            rfl
    · have hix := HIX.out q b hb
      have hlt : q < l.length := (List.getElem?_eq_some_iff.1 hb).1
      have htk : l.take (q + 1) = l.take q ++ [b] := by rw [List.take_add_one, hb]; rfl
      have HD : Hid (∀ b ∈ l.take (q + 1), isDg b = false) := Lib.hid fun x hx => by
        rw [htk, List.mem_append, List.mem_singleton] at hx
        rcases hx with hx | rfl
        · exact hd x hx
        · exact hbd
      have k1 : (q : Int) < (s.size : Int) := by have := HLN.out; omega
      have k2 : (0 : Int) ≤ (q : Int) := by omega
      have hb2 : b.toNat < 48 ∨ (48 ≤ b.toNat ∧ 57 < b.toNat) := by
        have := of_decide_eq_false hbd
        omega
      clear hd hb hbd htk HIX HEX
      rcases hb2 with h | ⟨h1, h2⟩
      · have k3 : decide ((b.toNat : Int) < 48) = true := decide_eq_true (by omega)
        go_wp2
        exact ⟨⟨q + 1, by omega, by go_num, HD.out, by trivial⟩, by simp [intOf]; omega⟩
      · have k3 : decide ((b.toNat : Int) < 48) = false := decide_eq_false (by omega)
        have k4 : decide ((b.toNat : Int) > 57) = true := decide_eq_true (by omega)
        go_wp2
        exact ⟨⟨q + 1, by omega, by go_num, HD.out, by trivial⟩, by simp [intOf]; omega⟩
end Go.Proofs.YtebeoadmdflfcaaGreatDoor
