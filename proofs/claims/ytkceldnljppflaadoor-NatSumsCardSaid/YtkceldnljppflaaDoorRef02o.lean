/- What the document's own Text gives back. -/
import Derived.Test.YtkceldnljppflaaDoorRef02n
import Derived.Test.YtkceldnljppflaaDoorDec
namespace Go.Proofs.YtkceldnljppflaaDoor.Ref02
open Go.RowKit
set_option linter.unusedVariables false
open Go.Proofs.YtkceldnljppflaaDoor.Dig

def strLen : Value → Nat
  | .string s => s.size
  | _ => 0

theorem enc_digit {r : Nat} (h : r < 10) : Utf8.encode (48 + (r : Int)) = ⟨#[UInt8.ofNat (48 + r)]⟩ := by
  rcases (show r = 0 ∨ r = 1 ∨ r = 2 ∨ r = 3 ∨ r = 4 ∨ r = 5 ∨ r = 6 ∨ r = 7 ∨ r = 8 ∨ r = 9 by omega) with rfl | rfl | rfl | rfl | rfl | rfl | rfl | rfl | rfl | rfl <;> rfl

set_option maxRecDepth 100000 in
set_option maxHeartbeats 1000000 in
theorem text_any (va : Value) (xs : List Nat) (w : World) (hx : Row w va xs) (lx : xs.length ≤ 10000) (r1 : rightB xs = true) (h0 : xs.length ≠ 0) :
    Calls Tryd.prog 31 #[va] w fun e w' => e = .returned (.tuple #[.string ⟨(text (num xs)).toArray⟩, .int .i64 0]) ∧ Since w w' := by
  have HX := Lib.hid hx
  have HN := Lib.hid (And.intro (right_norm r1).2 (num_pos (right_norm r1).2 h0))
  obtain ⟨dx, A, cA, rfl, hcx, -⟩ := hx
  have HD := Lib.hid dx
  clear hcx dx
  have hz : ((xs.length : Int) == 0) = false := by rw [beq_eq_false_iff_ne]; omega
  go_enter Tryd.func31, Tryd.ntmps31
  go_wp2_with (first
    | (go_at_call 18; (with_reducible refine (right_any (.slice A xs.length cA) xs _ HX.out (by omega)).mono ?_); rintro e w1 ⟨rfl, rfl⟩))
  go_loopw [0, 4] (fun a s wr => ∃ (N : Nat) (t : List UInt8), Row wr a (digs N) ∧ (digs N).length ≤ xs.length ∧ s = .string ⟨t.toArray⟩ ∧ decs N ++ t = decs (num xs) ∧ Since w wr) (fun _ s _ => (decs (num xs)).length - strLen s)
  case atStart => exact ⟨num xs, [], by rw [digs_num HD.out HN.out.1]; exact HX.out, by rw [digs_num HD.out HN.out.1]; exact Nat.le_refl _, rfl, by simp, Since.refl _⟩
  case round =>
    obtain ⟨N, t, hr, hl, rfl, ht, hw⟩ := hrel
    have HT := Lib.hid ht
    by_cases hN : N = 0
    · subst hN
      have hdz : digs 0 = [] := rfl
      rw [hdz] at hr
      obtain ⟨d1, B, cB, rfl, _, -⟩ := hr
      have e : text (num xs) = t := by
        have h1 := HN.out.2
        rw [text, if_neg (by omega), ← ht, decs_zero, List.nil_append]
      have HE := Lib.hid e
      clear ht e hdz
      go_wp2
      go_ret2
      exact ⟨congrArg (fun l : List UInt8 => Ending.returned (.tuple #[.string ⟨l.toArray⟩, .int .i64 0])) HE.out.symm, hw⟩
    · have hl0 : 0 < (digs N).length := by rw [digs_pos hN]; simp
      have hp := decs_part hN ht
      have HP := Lib.hid hp.1
      have hM := decs_num_len HD.out
      have htl := hp.2
      have HL := Lib.hid htl
      have htl2 : t.length ≤ 100000 := by omega
      obtain ⟨r, hr10⟩ : ∃ r, r = N % 10 := ⟨_, rfl⟩
      have hrb : r < 10 := by omega
      have hre : (N : Int) % 10 = (r : Int) := by omega
      have henc := enc_digit hrb
      obtain ⟨c, hc⟩ : ∃ c, c = UInt8.ofNat (48 + r) := ⟨_, rfl⟩
      rw [← hc] at henc
      have HCC := Lib.hid hc
      clear hc
      have HRR := Lib.hid hr10
      obtain ⟨n, hn⟩ : ∃ n, n = (digs N).length := ⟨_, rfl⟩
      have HR := Lib.hid hr
      have hrN := hr
      obtain ⟨d1, B, cB, rfl, _, -⟩ := hr
      rw [← hn] at hl hl0 HR ⊢
      have HNN := Lib.hid hn
      have hlen := Nat.le_trans (digs_len_mono (Nat.div_le_self N 10)) (by omega : (digs N).length ≤ xs.length)
      have HLE := Lib.hid hlen
      clear hrN hp hM htl ht d1 hr10 hN hn hlen
      go_wp2_with (first
        | (go_at_call 56; (with_reducible refine (tenth_any _ (digs N) _ HR.out (by rw [← HNN.out]; omega)).mono ?_); rw [num_digs, ← HRR.out]; rintro e w1 ⟨v, rfl, hv, hs⟩))
      go_roundw
      case rel =>
        refine ⟨N / 10, c :: t, ‹Row _ v _›, HLE.out, by rw [bytes_cons], ?_, hw.trans ‹_›⟩
        rw [HCC.out, HRR.out]; exact HP.out
      case measure =>
        have := HL.out
        rw [bytes_cons]
        simp [strLen, ByteArray.size]
        omega

/-- what the document says of Text -/
def textD (xs : List Nat) : List UInt8 × Int := if rightB xs = true then (text (num xs), 0) else ([], 2)
theorem text_full (va : Value) (xs : List Nat) (w : World) (hx : Row w va xs) (lx : xs.length ≤ 10000) :
    Calls Tryd.prog 31 #[va] w fun e w' => e = .returned (.tuple #[.string ⟨(textD xs).1.toArray⟩, .int .i64 (textD xs).2]) ∧ Since w w' := by
  by_cases r1 : rightB xs = true
  · by_cases h0 : xs.length = 0
    · have e : textD xs = ([48], 0) := by
        have : xs = [] := List.eq_nil_of_length_eq_zero h0
        rw [textD, if_pos r1, this]; rfl
      rw [e]
      have HX := Lib.hid hx
      obtain ⟨dx, A, cA, rfl, _, -⟩ := hx
      have hz : ((xs.length : Int) == 0) = true := by rw [beq_iff_eq]; omega
      clear e h0 dx
      go_enter Tryd.func31, Tryd.ntmps31
      go_wp2_with (first
        | (go_at_call 18; (with_reducible refine (right_any (.slice A xs.length cA) xs _ HX.out (by omega)).mono ?_); rintro e w1 ⟨rfl, rfl⟩))
      go_ret2
      exact ⟨rfl, Since.refl _⟩
    · have e : textD xs = (text (num xs), 0) := by rw [textD, if_pos r1]
      rw [e]
      exact text_any va xs w hx lx r1 h0
  · have r1' : rightB xs = false := by simpa using r1
    have e : textD xs = ([], 2) := by rw [textD, if_neg r1]
    rw [e]
    have HX := Lib.hid hx
    clear e r1 hx
    go_enter Tryd.func31, Tryd.ntmps31
    go_wp2_with (first
      | (go_at_call 18; (with_reducible refine (right_any va xs _ HX.out (by omega)).mono ?_); rintro e w1 ⟨rfl, rfl⟩))
    go_ret2
    exact ⟨rfl, Since.refl _⟩
end Go.Proofs.YtkceldnljppflaaDoor.Ref02
