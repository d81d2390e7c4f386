/- Layer 9 (set): the landed Of. -/
import Derived.Test.YtdlbfpodgjkimaaEs
import Derived.Test.YtdlbfpodgjkimaaEt
import Derived.Test.YtdlbfpodgjkimaaEu
namespace Go.Proofs.Ytdlbfpodgjkimaa.Zs
open Go.RowKit
set_option linter.unusedVariables false
set_option linter.unusedSimpArgs false
open Go.Proofs.Ytdlbfpodgjkimaa.Dig Go.Proofs.Ytdlbfpodgjkimaa.Lx Go.Proofs.Ytdlbfpodgjkimaa.Tk Go.Proofs.Ytdlbfpodgjkimaa.Ti

theorem fullL_skip {xs : List Rn} {R : Option (List Rn)} {lo hi : Int} {t : List Rn} (h : fullL xs ((lo, hi) :: t) = R) (c : lo > hi) : fullL xs t = R := by rw [fullL, if_pos c] at h; exact h
theorem fullL_no {xs : List Rn} {R : Option (List Rn)} {lo hi : Int} {t : List Rn} (h : fullL xs ((lo, hi) :: t) = R) (c : ¬ lo > hi) (k : lo < -1048576 ∨ hi > 1048576) : none = R := by rw [fullL, if_neg c, if_pos k] at h; exact h
theorem fullL_more {xs : List Rn} {R : Option (List Rn)} {lo hi : Int} {t : List Rn} (h : fullL xs ((lo, hi) :: t) = R) (c : ¬ lo > hi) (k : ¬ (lo < -1048576 ∨ hi > 1048576)) : fullL (xs ++ [(lo, hi)]) t = R := by rw [fullL, if_neg c, if_neg k] at h; exact h
set_option maxRecDepth 20000 in
set_option maxHeartbeats 2000000 in
theorem of_any (v : Value) (l : List Rn) (w : World) (h : Sl 2 QR w v l) (hl : l.length ≤ 90000) :
    Calls Try.prog 11 #[v] w (RetO (ofD [] l) w) := by
  obtain ⟨A, c, rfl⟩ := h.form
  obtain ⟨R, hR⟩ : ∃ R, R = fullL [] l := ⟨_, rfl⟩
  have hO1 : none = R → none = ofD [] l := fun e => (of_none (hR ▸ e.symm)).symm
  have hO2 : ∀ xs s : List Rn, some xs = R → s.Perm xs → s.Pairwise (fun x y => x.1 ≤ y.1) → some (joinL s) = ofD [] l ∧ full s := fun xs s e hp hs => by
    have e2 : fullL [] l = some xs := hR ▸ e.symm
    refine ⟨(of_same e2 hp hs).1.symm, fun r hr => fullL_ok e2 r (hp.mem_iff.1 hr)⟩
  obtain ⟨RR, hRR⟩ : ∃ RR, RR = ofD [] l := ⟨_, rfl⟩
  rw [← hRR] at hO1 hO2 ⊢
  obtain ⟨n, hn⟩ : ∃ n, n = l.length := ⟨_, rfl⟩
  rw [← hn] at h hl ⊢
  have H := Lib.hid h
  have HN := Lib.hid hn
  have HR := Lib.hid hR
  have O1 := Lib.hid hO1
  have O2 := Lib.hid hO2
  clear h hn hR hO1 hO2 hRR
  go_enter Try.func11, Try.ntmps11
  go_wp2
  go_loopw [4, 9] (fun s i wr => ∃ (k : Nat) (A : Option Addr) (m c : Nat) (xs : List Rn), i = .int .i64 (k : Int) ∧ s = .slice A m c ∧ k ≤ n ∧ m ≤ k ∧ Hid (xs.length = m) ∧ Hid (Rw w wr (.slice A m c) xs) ∧ Hid (fullL xs (l.drop k) = R)) (fun _ i _ => n - (intOf i).toNat)
  case atStart => exact ⟨0, none, 0, 0, [], rfl, rfl, Nat.zero_le _, Nat.le_refl _, rfl, .nil (Since.refl _), HR.out.symm⟩
  case round =>
    obtain ⟨k, A2, m, d2, xs, rfl, rfl, hk, hm, HX, HW, HE⟩ := hrel
    by_cases hkn : k < n
    · have hkl : k < l.length := by have := HN.out; omega
      obtain ⟨g, o, rfl, e0, e1⟩ := elR (H.out.since stR HW.out.2) hkl
      have hst := HE.out
      rw [drop_at hkl] at hst
      generalize l[k] = y at *
      obtain ⟨lo, hi⟩ := y
      simp only at hst e0 e1
      have ka := Lib.hid (since_alloc wr (.cells #[.int .i64 lo, .int .i64 hi] 32))
      have ST := Lib.hid hst
      have WB := Lib.hid (HW.out.since ka.out)
      obtain ⟨r0, r1⟩ := (Bx.fresh wr #[.int .i64 lo, .int .i64 hi] 32).two
      have QQ := Lib.hid (Bx.fresh (wr.alloc (.cells #[.int .i64 lo, .int .i64 hi] 32)) #[.int .i64 lo, .int .i64 hi] 32).two
      have hgs : (wr.alloc (.cells #[.int .i64 lo, .int .i64 hi] 32)).heap.size = wr.heap.size + 1 := by simp
      rw [hgs] at QQ
      have hw2 := HW.out.2
      clear hst hkl HE hgs
      by_cases c1 : lo > hi
      · have HE := Lib.hid (fullL_skip ST.out c1)
        go_wp2
        go_roundw
        case rel => exact ⟨k + 1, A2, m, d2, xs, by go_num, rfl, by omega, by omega, HX.out, WB.out, HE.out⟩
        case measure => simp [intOf]; omega
      · by_cases c2 : lo < -1048576
        · have HE := Lib.hid (O1.out (fullL_no ST.out c1 (.inl c2)))
          go_wp2
          go_ret2
          exact .no HE.out (hw2.trans ka.out)
        · by_cases c3 : hi > 1048576
          · have HE := Lib.hid (O1.out (fullL_no ST.out c1 (.inr c3)))
            go_wp2
            go_ret2
            exact .no HE.out (hw2.trans ka.out)
          · have HE := Lib.hid (fullL_more ST.out c1 (fun h => h.elim c2 c3))
            go_wp2_with (at_builtin; refine wpList_app (WB.out.since (since_alloc _ _)) (by rw [HX.out]; omega) (lo, hi) (wr.heap.size + 1) 1 QQ.out.1 QQ.out.2 (by rfl) _ _ rfl rfl rfl ?_; intro A3 c3 w2 h2 _; rw [HX.out] at h2)
            go_roundw
            case rel => exact ⟨k + 1, A3, m + 1, c3, _, by go_num, by first | rfl | rw [HX.out], by omega, by omega, by rw [List.length_append, HX.out]; rfl, h2, HE.out⟩
            case measure => simp [intOf]; omega
    · obtain rfl : k = n := by omega
      have HE2 := Lib.hid (show some xs = R by rw [← HE.out, List.drop_of_length_le (by have := HN.out; omega)]; rfl)
      have SO := Lib.hid (sort_any HW.out (by rw [HX.out]; omega))
      have JO := Lib.hid (fun (s : List Rn) (W : World) (hS : Sl 2 QR W (.slice A2 m d2) s) (hp : s.Perm xs) (hf : full s) => joined_any (.slice A2 m d2) s W hS (by rw [hp.length_eq, HX.out]; omega) hf)
      have O3 := Lib.hid (fun (s : List Rn) (hp : s.Perm xs) (hs : s.Pairwise fun x y => x.1 ≤ y.1) => O2.out xs s HE2.out hp hs)
      clear HE
      go_wp2_with (first
        | (go_at_call 32; (with_reducible refine SO.out.mono ?_); rintro e w2 ⟨rfl, s, hp, hs, hS, k2⟩; have hO := O3.out s hp hs; have P3 := Lib.hid hp; have S3 := Lib.hid hS; have F3 := Lib.hid hO.2; have J3 := Lib.hid hO.1; clear hp hs hS hO)
        | (go_at_call 35; (with_reducible refine (JO.out _ _ S3.out P3.out F3.out).mono ?_); rintro e w3 ⟨A3, m3, c3, rfl, hm3, h3, k3⟩))
      go_ret2
      exact .yes J3.out hm3 h3 (k2.trans k3)
theorem of_at {v : Value} {l : List Rn} {w : World} (h : Sl 2 QR w v l) (hl : l.length ≤ 90000) {R : Option (List Rn)} (hR : ofD [] l = R) (W : World) (k : Since w W) : Calls Try.prog 11 #[v] W (RetO R W) := by
  subst hR; exact of_any v l W (h.since stR k) hl
end Go.Proofs.Ytdlbfpodgjkimaa.Zs
