/- What the document's own tenth gives back: the tenth of a number, and what is left. What the document's own Text gives back. What the document's own Text of layer 3 gives back. -/
import Derived.Test.YtbbemgeinlehmaaGreatDoorNb
import Derived.Deep.OwnRows
import Derived.Test.YtbbemgeinlehmaaGreatDoorWd
import Derived.Test.YtbbemgeinlehmaaGreatDoorRb
namespace Go.Proofs.YtbbemgeinlehmaaGreatDoor.Ref02
open Go.RowKit
set_option linter.unusedVariables false
open Go.Proofs.YtbbemgeinlehmaaGreatDoor.Dig

/-- a block known whole reads as its digits -/
theorem row_of_is {w : World} {b n : Nat} {t : TypeId} {f : Nat → Value} {ds : List Nat} (h : w.rowIs b t n f) (hd : IsDig ds) (hl : ds.length = n) (hf : ∀ i, i < n → f i = .int .u32 ((ds.getD i 0 : Nat) : Int)) :
    Row w (.slice (some ⟨b, 0, none⟩) n n) ds := by
  subst hl
  refine ⟨hd, _, _, rfl, fun _ => ⟨b, 0, rfl, fun i hi => ?_⟩, Nat.le_refl _⟩
  rw [Nat.zero_add, h.cell hi, hf i hi]
theorem tenth_step {xs os : List Nat} {j L : Nat} (hj : j < xs.length) (hL : L < 10) (hx : xs.getD j 0 < 4294967296) (h : num (xs.drop (j + 1)) = 10 * num os + L) :
    num (xs.drop j) = 10 * num ((L * 4294967296 + xs.getD j 0) / 10 :: os) + (L * 4294967296 + xs.getD j 0) % 10 ∧ (L * 4294967296 + xs.getD j 0) / 10 < 4294967296 := by
  rw [num_drop hj, h, num]
  generalize num os = n at *
  generalize xs.getD j 0 = x at *
  omega

set_option maxRecDepth 100000 in
set_option maxHeartbeats 1000000 in
theorem tenth_any (va : Value) (xs : List Nat) (w : World) (hx : Row w va xs) (lx : xs.length ≤ 10000) :
    Calls Tryz.prog 107 #[va] w fun e w' => ∃ v, e = .returned (.tuple #[v, .int .u64 ((num xs % 10 : Nat) : Int)]) ∧ Row w' v (digs (num xs / 10)) ∧ Since w w' := by
  obtain ⟨i0, hi, hz0, hz1, hz2⟩ := info_parts info_u32
  obtain ⟨dx, A, cA, rfl, hcx, -⟩ := hx
  have HC := Lib.hid hcx
  have HD := Lib.hid dx
  clear hcx dx
  obtain ⟨n, hn⟩ : ∃ n, n = xs.length := ⟨_, rfl⟩
  rw [← hn] at lx ⊢
  have HN := Lib.hid hn
  clear hn
  have hmk : ∀ W : World, (Instr.makeSlice 22 (.int .i64 (n : Int)) (.int .i64 (n : Int))).run Tryz.prog W = .ok (.slice (some ⟨W.heap.size, 0, none⟩) n n) (W.alloc (.cells (madeCells #[.int .u32 0] n) 88)) := fun W => by
    have h := run_make (P := Tryz.prog) W 22 88 i0 (.int .u32 0) Tryz.underlying22 hi hz0 .i64 .i64 n n (by omega) (by omega) (by rw [hz2]; omega) (by omega)
    rw [hz1] at h
    simpa [Value.cells] using h
  go_enter Tryz.func107, Tryz.ntmps107
  go_wp2
  go_loopw [5, 6] (fun l i wr => ∃ (k L : Nat) (os : List Nat), k ≤ n ∧ i = .int .i64 ((k : Int) - 1) ∧ l = .int .u64 L ∧ L < 10 ∧ Hid (IsDig os ∧ os.length = n - k ∧ num (xs.drop k) = 10 * num os + L) ∧ Hid (wr.rowIs w.heap.size 88 n (fun i => .int .u32 (((if i < k then 0 else os.getD (i - k) 0) : Nat) : Int))) ∧ Since w wr) (fun _ i _ => (intOf i + 1).toNat)
  case atStart =>
    refine ⟨n, 0, [], Nat.le_refl _, rfl, rfl, by omega, ⟨isDig_nil, by simp, ?_⟩, ?_, (Since.refl w).alloc _⟩
    · rw [List.drop_of_length_le (by have := HN.out; omega)]; rfl
    · exact (World.rowIs_made w (.int .u32 0) n 88).congr fun i hi => by simp [hi]
  case round =>
    obtain ⟨k, L, os, hk, rfl, rfl, hL, hos, hrow, hw⟩ := hrel
    rcases k with _ | j
    · have hn := HN.out
      obtain ⟨h1, h2, h3⟩ := hos.out
      rw [List.drop_zero] at h3
      have hr : Row wr (.slice (some ⟨w.heap.size, 0, none⟩) n n) os := row_of_is hrow.out h1 (by omega) (fun i _ => by simp)
      have HR := Lib.hid hr
      have e1 : num os = num xs / 10 := by omega
      have e2 : L = num xs % 10 := by omega
      have HE := Lib.hid (And.intro e1 e2)
      have HL := Lib.hid (show os.length ≤ 1000000 by omega)
      clear hr hn h1 h2 h3 e1 e2
      go_wp2_with (go_at_call 98; (with_reducible refine (trim_any _ os _ HR.out HL.out).mono ?_); rintro e w1 ⟨v, rfl, hr, hs⟩)
      go_ret2
      exact ⟨_, by rw [← HE.out.2]; rfl, by rw [← HE.out.1]; exact ‹Row _ v _›, hw.trans ‹_›⟩
    · have e : ((j + 1 : Nat) : Int) - 1 = (j : Int) := by omega
      rw [e]
      clear e
      have hn := HN.out
      obtain ⟨b, o, rfl, hcc⟩ := HC.out (by omega)
      have hcell := (Below.cell hw (World.block_lt_of_cell? _ _ (hcc j (by omega)))).trans (hcc j (by omega))
      have hxb := getD_lt HD.out j
      obtain ⟨h1, h2, h3⟩ := hos.out
      have hst := tenth_step (by omega) hL hxb h3
      obtain ⟨x, hx⟩ : ∃ x, x = xs.getD j 0 := ⟨_, rfl⟩
      rw [← hx] at hcell hst hxb
      obtain ⟨q, hq⟩ : ∃ q, q = (L * 4294967296 + x) / 10 := ⟨_, rfl⟩
      obtain ⟨r, hr⟩ : ∃ r, r = (L * 4294967296 + x) % 10 := ⟨_, rfl⟩
      have iq : ((L : Int) * 4294967296 + (x : Int)) / 10 = (q : Int) := by omega
      have ir : ((L : Int) * 4294967296 + (x : Int)) % 10 = (r : Int) := by omega
      have hr10 : r < 10 := by omega
      rw [← hq, ← hr] at hst
      obtain ⟨hst1, hst2⟩ := hst
      have HS := Lib.hid (And.intro hst1 (And.intro h1 h2))
      have g1 := hrow.out.cell (i := j) (by omega)
      have g2 := hrow.out.frozen j
      rw [if_pos (by omega)] at g1
      have hj : j < n := by omega
      clear hcc hx hn h1 h2 h3 hst1 hq hr
      go_wp2
      go_roundw
      case rel =>
        obtain ⟨k1, k2, k3⟩ := HS.out
        refine ⟨j, r, q :: os, by omega, rfl, (by rw [ir]), hr10, ⟨?_, ?_, k1⟩, ?_, hw.set (Nat.le_refl _) _⟩
        · intro d hd
          rcases List.mem_cons.mp hd with rfl | hd
          · exact hst2
          · exact k2 d hd
        · simp; omega
        · refine (hrow.out.set j (.int .u32 (q : Int))).congr fun i hi => ?_
          by_cases h1 : i = j
          · subst h1
            rw [if_pos rfl, if_neg (by omega), Nat.sub_self]
            simp [List.getD]
          · rw [if_neg h1]
            by_cases h2 : i < j
            · rw [if_pos (by omega), if_pos h2]
            · rw [if_neg (by omega), if_neg h2, show i - j = (i - (j + 1)) + 1 by omega]
              simp [List.getD]
      case measure => simp [intOf] <;> omega
end Go.Proofs.YtbbemgeinlehmaaGreatDoor.Ref02

namespace Go.Proofs.YtbbemgeinlehmaaGreatDoor.Ref02
open Go.RowKit
set_option linter.unusedVariables false
open Go.Proofs.YtbbemgeinlehmaaGreatDoor.Dig

def strLen : Value → Nat
  | .string s => s.size
  | _ => 0

theorem enc_digit {r : Nat} (h : r < 10) : Utf8.encode (48 + (r : Int)) = ⟨#[UInt8.ofNat (48 + r)]⟩ := by
  rcases (show r = 0 ∨ r = 1 ∨ r = 2 ∨ r = 3 ∨ r = 4 ∨ r = 5 ∨ r = 6 ∨ r = 7 ∨ r = 8 ∨ r = 9 by omega) with rfl | rfl | rfl | rfl | rfl | rfl | rfl | rfl | rfl | rfl <;> rfl

set_option maxRecDepth 100000 in
set_option maxHeartbeats 1000000 in
theorem text_any (va : Value) (xs : List Nat) (w : World) (hx : Row w va xs) (lx : xs.length ≤ 10000) (r1 : rightB xs = true) (h0 : xs.length ≠ 0) :
    Calls Tryz.prog 85 #[va] w fun e w' => e = .returned (.tuple #[.string ⟨(text (num xs)).toArray⟩, .int .i64 0]) ∧ Since w w' := by
  have HX := Lib.hid hx
  have HN := Lib.hid (And.intro (right_norm r1).2 (num_pos (right_norm r1).2 h0))
  obtain ⟨dx, A, cA, rfl, hcx, -⟩ := hx
  have HD := Lib.hid dx
  clear hcx dx
  have hz : ((xs.length : Int) == 0) = false := by rw [beq_eq_false_iff_ne]; omega
  go_enter Tryz.func85, Tryz.ntmps85
  go_wp2_with (first
    | (go_at_call 86; (with_reducible refine (right_any (.slice A xs.length cA) xs _ HX.out (by omega)).mono ?_); rintro e w1 ⟨rfl, rfl⟩))
  go_loopw [0, 4] (fun a s wr => ∃ (N : Nat) (t : List UInt8), Row wr a (digs N) ∧ (digs N).length ≤ xs.length ∧ s = .string ⟨t.toArray⟩ ∧ decs N ++ t = decs (num xs) ∧ Since w wr) (fun _ s _ => (decs (num xs)).length - strLen s)
  case atStart => exact ⟨num xs, [], by rw [digs_num HD.out HN.out.1]; exact HX.out, by rw [digs_num HD.out HN.out.1]; exact Nat.le_refl _, rfl, by simp, Since.refl _⟩
  case round =>
    obtain ⟨N, t, hr, hl, rfl, ht, hw⟩ := hrel
    have HT := Lib.hid ht
    by_cases hN : N = 0
    · subst hN
      have hdz : digs 0 = [] := rfl
      rw [hdz] at hr
      obtain ⟨d1, B, cB, rfl, _, -⟩ := hr
      have e : text (num xs) = t := by
        have h1 := HN.out.2
        rw [text, if_neg (by omega), ← ht, decs_zero, List.nil_append]
      have HE := Lib.hid e
      clear ht e hdz
      go_wp2
      go_ret2
      exact ⟨congrArg (fun l : List UInt8 => Ending.returned (.tuple #[.string ⟨l.toArray⟩, .int .i64 0])) HE.out.symm, hw⟩
    · have hl0 : 0 < (digs N).length := by rw [digs_pos hN]; simp
      have hp := decs_part hN ht
      have HP := Lib.hid hp.1
      have hM := decs_num_len HD.out
      have htl := hp.2
      have HL := Lib.hid htl
      have htl2 : t.length ≤ 100000 := by omega
      obtain ⟨r, hr10⟩ : ∃ r, r = N % 10 := ⟨_, rfl⟩
      have hrb : r < 10 := by omega
      have hre : (N : Int) % 10 = (r : Int) := by omega
      have henc := enc_digit hrb
      obtain ⟨c, hc⟩ : ∃ c, c = UInt8.ofNat (48 + r) := ⟨_, rfl⟩
      rw [← hc] at henc
      have HCC := Lib.hid hc
      clear hc
      have HRR := Lib.hid hr10
      obtain ⟨n, hn⟩ : ∃ n, n = (digs N).length := ⟨_, rfl⟩
      have HR := Lib.hid hr
      have hrN := hr
      obtain ⟨d1, B, cB, rfl, _, -⟩ := hr
      rw [← hn] at hl hl0 HR ⊢
      have HNN := Lib.hid hn
      have hlen := Nat.le_trans (digs_len_mono (Nat.div_le_self N 10)) (by omega : (digs N).length ≤ xs.length)
      have HLE := Lib.hid hlen
      clear hrN hp hM htl ht d1 hr10 hN hn hlen
      go_wp2_with (first
        | (go_at_call 107; (with_reducible refine (tenth_any _ (digs N) _ HR.out (by rw [← HNN.out]; omega)).mono ?_); rw [num_digs, ← HRR.out]; rintro e w1 ⟨v, rfl, hv, hs⟩))
      go_roundw
      case rel =>
        refine ⟨N / 10, c :: t, ‹Row _ v _›, HLE.out, by rw [bytes_cons], ?_, hw.trans ‹_›⟩
        rw [HCC.out, HRR.out]; exact HP.out
      case measure =>
        have := HL.out
        rw [bytes_cons]
        simp [strLen, ByteArray.size]
        omega

theorem text_full (va : Value) (xs : List Nat) (w : World) (hx : Row w va xs) (lx : xs.length ≤ 10000) :
    Calls Tryz.prog 85 #[va] w fun e w' => e = .returned (.tuple #[.string ⟨(textD xs).1.toArray⟩, .int .i64 (textD xs).2]) ∧ Since w w' := by
  by_cases r1 : rightB xs = true
  · by_cases h0 : xs.length = 0
    · have e : textD xs = ([48], 0) := by
        have : xs = [] := List.eq_nil_of_length_eq_zero h0
        rw [textD, if_pos r1, this]; rfl
      rw [e]
      have HX := Lib.hid hx
      obtain ⟨dx, A, cA, rfl, _, -⟩ := hx
      have hz : ((xs.length : Int) == 0) = true := by rw [beq_iff_eq]; omega
      clear e h0 dx
      go_enter Tryz.func85, Tryz.ntmps85
      go_wp2_with (first
        | (go_at_call 86; (with_reducible refine (right_any (.slice A xs.length cA) xs _ HX.out (by omega)).mono ?_); rintro e w1 ⟨rfl, rfl⟩))
      go_ret2
      exact ⟨rfl, Since.refl _⟩
    · have e : textD xs = (text (num xs), 0) := by rw [textD, if_pos r1]
      rw [e]
      exact text_any va xs w hx lx r1 h0
  · have r1' : rightB xs = false := by simpa using r1
    have e : textD xs = ([], 2) := by rw [textD, if_neg r1]
    rw [e]
    have HX := Lib.hid hx
    clear e r1 hx
    go_enter Tryz.func85, Tryz.ntmps85
    go_wp2_with (first
      | (go_at_call 86; (with_reducible refine (right_any va xs _ HX.out (by omega)).mono ?_); rintro e w1 ⟨rfl, rfl⟩))
    go_ret2
    exact ⟨rfl, Since.refl _⟩
end Go.Proofs.YtbbemgeinlehmaaGreatDoor.Ref02

namespace Go.Proofs.YtbbemgeinlehmaaGreatDoor.Ref03
open Go.RowKit
set_option linter.unusedVariables false
open Go.Proofs.YtbbemgeinlehmaaGreatDoor.Dig

set_option maxRecDepth 100000 in
set_option maxHeartbeats 1000000 in
theorem text_any (A0 : Option Addr) (c0 : Nat) (na : Bool) (xs : List Nat) (w : World) (hx : Row w (.slice A0 xs.length c0) xs) (lx : xs.length ≤ 1000) :
    Calls Tryz.prog 58 #[sv na (.slice A0 xs.length c0)] w fun e w' => e = .returned (.tuple #[.string ⟨(textZ na xs).1.toArray⟩, .int .i64 (textZ na xs).2]) ∧ Since w w' := by
  have H := Lib.hid hx
  have LL := Lib.hid lx
  have HD := Lib.hid hx.dig
  obtain ⟨W0, hW0⟩ : ∃ W0, W0 = w.alloc (.cells #[.bool na, .slice A0 xs.length c0] 24) := ⟨_, rfl⟩
  have HW := Lib.hid hW0
  have hold : Hid (∀ W : World, Since W0 W → (W.cell? ⟨w.heap.size, 0, none⟩ = some (.bool na) ∧ W.cell? ⟨w.heap.size, 1, none⟩ = some (.slice A0 xs.length c0))) := fun W h => hold1 (hW0 ▸ h)
  have hS0 : Since w W0 := by rw [hW0]; exact (Since.refl w).alloc _
  have hK := Since.refl W0
  clear hW0 hx lx
  by_cases r1 : srightB na xs = true
  · have R1 := Lib.hid r1
    have ed : Ref02.textD xs = (text (num xs), 0) := by unfold Ref02.textD; rw [if_pos (sright_right r1)]
    have hlen : (text (num xs)).length ≤ 20000 := by
      have h1 := decs_num_len HD.out
      have h2 := LL.out
      unfold text; split
      · simp
      · omega
    obtain ⟨L, hL⟩ : ∃ L, L = text (num xs) := ⟨_, rfl⟩
    rw [← hL] at hlen ed
    have ED := Lib.hid ed
    have EV := Lib.hid (show textZ na xs = ((if na = true then 45 :: L else L), 0) by rw [textZ, if_pos r1, hL])
    clear r1 hL ed
    cases na
    · go_enter Tryz.func58, Tryz.ntmps58
      go_wp2_with fail
      rw [← HW.out]
      go_wp2_with (first
        | (go_at_call 61; (with_reducible refine (right_any (.slice A0 xs.length c0) false xs _ (H.out.since (hS0.trans hK)) (by have := LL.out; omega)).mono ?_); rw [R1.out]; rintro e w1 ⟨rfl, h1⟩; have hK := hK.trans h1; obtain ⟨k0, k1⟩ := hold.out _ hK)
        | (go_at_call 85; (with_reducible refine (Ref02.text_full (.slice A0 xs.length c0) xs _ (H.out.since (hS0.trans hK)) (by have := LL.out; omega)).mono ?_); rw [ED.out]; rintro e w2 ⟨rfl, h2⟩; have hK := hK.trans h2; obtain ⟨k0, k1⟩ := hold.out _ hK))
      go_ret2
      exact ⟨by rw [EV.out]; rfl, hS0.trans hK⟩
    · go_enter Tryz.func58, Tryz.ntmps58
      go_wp2_with fail
      rw [← HW.out]
      go_wp2_with (first
        | (go_at_call 61; (with_reducible refine (right_any (.slice A0 xs.length c0) true xs _ (H.out.since (hS0.trans hK)) (by have := LL.out; omega)).mono ?_); rw [R1.out]; rintro e w1 ⟨rfl, h1⟩; have hK := hK.trans h1; obtain ⟨k0, k1⟩ := hold.out _ hK)
        | (go_at_call 85; (with_reducible refine (Ref02.text_full (.slice A0 xs.length c0) xs _ (H.out.since (hS0.trans hK)) (by have := LL.out; omega)).mono ?_); rw [ED.out]; rintro e w2 ⟨rfl, h2⟩; have hK := hK.trans h2; obtain ⟨k0, k1⟩ := hold.out _ hK))
      go_ret2
      have ev : textZ true xs = (45 :: L, 0) := EV.out.trans (by simp)
      rw [ev]
      exact ⟨congrArg (fun b : ByteArray => Ending.returned (.tuple #[.string b, .int .i64 0])) (bytes_cons 45 L), hS0.trans hK⟩
  · have R1 := Lib.hid (show srightB na xs = false by simpa using r1)
    have EV := Lib.hid (show textZ na xs = ([], 2) by rw [textZ, if_neg r1])
    clear r1
    go_enter Tryz.func58, Tryz.ntmps58
    go_wp2_with fail
    rw [← HW.out]
    go_wp2_with (first
      | (go_at_call 61; (with_reducible refine (right_any (.slice A0 xs.length c0) na xs _ (H.out.since (hS0.trans hK)) (by have := LL.out; omega)).mono ?_); rw [R1.out]; rintro e w1 ⟨rfl, h1⟩; have hK := hK.trans h1; obtain ⟨k0, k1⟩ := hold.out _ hK))
    go_ret2
    exact ⟨by rw [EV.out]; rfl, hS0.trans hK⟩
end Go.Proofs.YtbbemgeinlehmaaGreatDoor.Ref03
