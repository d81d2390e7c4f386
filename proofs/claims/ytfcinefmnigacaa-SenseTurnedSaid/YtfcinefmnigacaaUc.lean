/- Layer 11 (sense): the landed model's isDomain, hasCounts, hasSigns, booleans. -/
import Derived.Test.YtfcinefmnigacaaUb
namespace Go.Proofs.Ytfcinefmnigacaa.Sn
open Go.RowKit
set_option linter.unusedVariables false
set_option linter.unusedSimpArgs false
open Go.Proofs.Ytfcinefmnigacaa.Dig Go.Proofs.Ytfcinefmnigacaa.Lx Go.Proofs.Ytfcinefmnigacaa.Tk Go.Proofs.Ytfcinefmnigacaa.Ti Go.Proofs.Ytfcinefmnigacaa.Zs Go.Proofs.Ytfcinefmnigacaa.Tr

/-- how the least next one hangs on the range ahead -/
def Pv (l : List Rn) (k : Nat) (b : Int) : Prop := (k = 0 ∧ b = -1048576) ∨ ∃ j p, k = j + 1 ∧ l[j]? = some p ∧ b = p.2 + 2 ∧ -1048576 ≤ p.2 ∧ p.2 ≤ 1048576
theorem Pv.ge {l : List Rn} {k : Nat} {b : Int} (h : Pv l k b) : -1048576 ≤ b := by
  rcases h with ⟨-, h⟩ | ⟨j, p, -, -, h⟩ <;> omega
theorem okF_lo' {b lo hi : Int} {t : List Rn} (h : within lo = false) (h0 : ¬ lo > hi) (hb : -1048576 ≤ b) : okF b ((lo, hi) :: t) = false := by
  have h2 : ¬ (-1048576 ≤ lo ∧ lo ≤ 1048576) := fun e => by rw [(within_iff' lo).2 e] at h; cases h
  by_cases c : lo < b
  · exact okF_no1 c
  · exact okF_no3 (by simp only [mx]; omega)
theorem okF_hi' {b lo hi : Int} {t : List Rn} (h : within hi = false) (hl : -1048576 ≤ lo) (h0 : ¬ lo > hi) : okF b ((lo, hi) :: t) = false := by
  have h2 : ¬ (-1048576 ≤ hi ∧ hi ≤ 1048576) := fun e => by rw [(within_iff' hi).2 e] at h; cases h
  exact okF_no3 (by simp only [mx]; omega)
set_option maxRecDepth 20000 in
set_option maxHeartbeats 2000000 in
theorem isDomain_any (v : Value) (l : List Rn) (w : World) (h : Sl 2 QR w v l) (hl : l.length ≤ 1100000) :
    Calls Try.prog 51 #[v] w (RetT (domOk l) w) := by
  obtain ⟨A, c, rfl⟩ := h.form
  by_cases hz : l.length = 0
  · obtain rfl : l = [] := List.eq_nil_of_length_eq_zero hz
    clear hz hl h
    go_enter Try.func51, Try.ntmps51
    go_wp2
    go_loopw [7] (fun i wr => i = .int .i64 0 ∧ wr = w) (fun i _ => 0)
    case atStart => exact ⟨rfl, rfl⟩
    case round =>
      obtain ⟨rfl, rfl⟩ := hrel
      go_wp2
      go_ret
      exact ⟨rfl, Since.refl _⟩
  obtain ⟨n, hn⟩ : ∃ n, n = l.length := ⟨_, rfl⟩
  obtain ⟨R, hR⟩ : ∃ R, R = right l := ⟨_, rfl⟩
  have e : domOk l = R := by rw [domOk, decide_eq_true (by omega), Bool.and_true, hR]
  rw [e]
  rw [← hn] at h hl hz ⊢
  have H := Lib.hid h
  have HN := Lib.hid hn
  have HR := Lib.hid hR
  have hn0 : 0 < n := by omega
  clear h hn hR e hz
  go_enter Try.func51, Try.ntmps51
  go_wp2
  go_loopw [7] (fun i wr => ∃ (k : Nat) (b : Int), i = .int .i64 (k : Int) ∧ k ≤ n ∧ Hid (Pv l k b) ∧ Hid (okF b (l.drop k) = R) ∧ Hid (Since w wr)) (fun i _ => n - (intOf i).toNat)
  case atStart => exact ⟨0, -1048576, rfl, Nat.zero_le _, .inl ⟨rfl, rfl⟩, HR.out.symm, Since.refl _⟩
  case round =>
    obtain ⟨k, b, rfl, hk, HP, HE, HW⟩ := hrel
    by_cases hkn : k < n
    · have hkl : k < l.length := by have := HN.out; omega
      have hek : l[k]? = some l[k] := List.getElem?_eq_getElem hkl
      obtain ⟨g, o, rfl, e0, e1⟩ := elR (H.out.since stR HW.out) hkl
      have hst := HE.out
      rw [drop_at hkl] at hst
      generalize l[k] = x at *
      obtain ⟨lo, hi⟩ := x
      simp only at hst e0 e1
      have hbb := HP.out.ge
      have ST := Lib.hid hst
      have HK := Lib.hid hek
      have ka := Lib.hid (since_alloc wr (.cells #[.int .i64 lo, .int .i64 hi] 46))
      obtain ⟨r0, r1⟩ := (Bx.fresh wr #[.int .i64 lo, .int .i64 hi] 46).two
      clear hst hek
      have IV := Lib.hid (fun y b (hb : within y = b) W => by have := isValue_any y W; rw [hb] at this; exact this)
      by_cases c1 : lo > hi
      · have HE := Lib.hid ((okF_no2 c1).symm.trans ST.out)
        clear HK hkl
        go_wp2
        go_ret
        exact .of HE.out (HW.out.trans ka.out)
      · cases cl : within lo with
        | false =>
          have HE := Lib.hid ((okF_lo' cl c1 hbb).symm.trans ST.out)
          have I1 := Lib.hid (IV.out lo false cl)
          clear HK hkl cl
          go_wp2_with (go_at_call 64; (with_reducible refine (I1.out _).mono ?_); rintro e w1 ⟨rfl, rfl⟩)
          go_ret
          exact .of HE.out (HW.out.trans ka.out)
        | true =>
          have I1 := Lib.hid (IV.out lo true cl)
          have hl2 := (within_iff' lo).1 cl
          cases ch : within hi with
          | false =>
            have HE := Lib.hid ((okF_hi' ch hl2.1 c1).symm.trans ST.out)
            have I2 := Lib.hid (IV.out hi false ch)
            clear HK hkl cl ch
            go_wp2_with (first
              | (go_at_call 64; (with_reducible refine (I1.out _).mono ?_); rintro e w1 ⟨rfl, rfl⟩)
              | (go_at_call 64; (with_reducible refine (I2.out _).mono ?_); rintro e w1 ⟨rfl, rfl⟩))
            go_ret
            exact .of HE.out (HW.out.trans ka.out)
          | true =>
            have I2 := Lib.hid (IV.out hi true ch)
            have hh2 := (within_iff' hi).1 ch
            clear cl ch
            rcases HP.out with ⟨hk0, hb0⟩ | ⟨j, p, hkj, hpj, hb0, hp1, hp2⟩
            · subst hk0 hb0
              simp only [Nat.zero_mul, Nat.add_zero] at e0 e1
              have HE2 := Lib.hid ((okF_yes (by omega) c1 (by simp only [mx]; omega)).symm.trans ST.out)
              have HPN := Lib.hid (show Pv l (0 + 1) (hi + 2) from .inr ⟨0, (lo, hi), rfl, HK.out, rfl, hh2.1, hh2.2⟩)
              clear HK hkl
              go_wp2_with (first
                | (go_at_call 64; (with_reducible refine (I1.out _).mono ?_); rintro e w1 ⟨rfl, rfl⟩)
                | (go_at_call 64; (with_reducible refine (I2.out _).mono ?_); rintro e w1 ⟨rfl, rfl⟩))
              go_region
              all_goals go_wp2
              all_goals go_roundw
              case rel => exact ⟨0 + 1, hi + 2, by go_num, by omega, HPN.out, HE2.out, by first | exact HW.out.trans ka.out | exact Since.drew (HW.out.trans ka.out)⟩
              case measure => simp [intOf]; omega
            · subst hkj
              have hjl : j < l.length := by omega
              have ep : l[j] = p := by rw [List.getElem?_eq_getElem hjl] at hpj; exact Option.some.inj hpj
              obtain ⟨g', o', hg, -, f1⟩ := elR (H.out.since stR HW.out) hjl
              simp only [Option.some.injEq, Addr.mk.injEq, and_true] at hg
              obtain ⟨rfl, rfl⟩ := hg
              rw [ep] at f1
              obtain ⟨pl, ph⟩ := p
              simp only at f1 hb0 hp1 hp2
              have f2 := (ka.out.cell _ (World.block_lt_of_cell? _ _ f1)).trans f1
              have ej : ((j + 1 : Nat) : Int) - 1 = (j : Int) := by omega
              clear hpj ep hjl f1 hkl
              by_cases c4 : lo < ph + 2
              · have HE2 := Lib.hid ((okF_no1 (by rw [hb0]; exact c4)).symm.trans ST.out)
                clear HK
                go_wp2_with (first
                  | (go_at_call 64; (with_reducible refine (I1.out _).mono ?_); rintro e w1 ⟨rfl, rfl⟩)
                  | (go_at_call 64; (with_reducible refine (I2.out _).mono ?_); rintro e w1 ⟨rfl, rfl⟩))
                go_region
                all_goals go_wp2
                all_goals go_ret
                all_goals exact .of HE2.out (by first | exact HW.out.trans ka.out | exact Since.drew (HW.out.trans ka.out))
              · have HE2 := Lib.hid ((okF_yes (by rw [hb0]; exact c4) c1 (by simp only [mx]; omega)).symm.trans ST.out)
                have HPN := Lib.hid (show Pv l (j + 1 + 1) (hi + 2) from .inr ⟨j + 1, (lo, hi), rfl, HK.out, rfl, hh2.1, hh2.2⟩)
                clear HK
                go_wp2_with (first
                  | (go_at_call 64; (with_reducible refine (I1.out _).mono ?_); rintro e w1 ⟨rfl, rfl⟩)
                  | (go_at_call 64; (with_reducible refine (I2.out _).mono ?_); rintro e w1 ⟨rfl, rfl⟩))
                go_region
                all_goals go_wp2
                all_goals go_roundw
                case rel => exact ⟨j + 1 + 1, hi + 2, by go_num, by omega, HPN.out, HE2.out, by first | exact HW.out.trans ka.out | exact Since.drew (HW.out.trans ka.out)⟩
                case measure => simp [intOf]; omega
    · obtain rfl : k = n := by omega
      have HE2 := Lib.hid (show true = R by rw [← HE.out, List.drop_of_length_le (by have := HN.out; omega)]; rfl)
      go_wp2
      go_ret
      exact .of HE2.out HW.out
end Go.Proofs.Ytfcinefmnigacaa.Sn
