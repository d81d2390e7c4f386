/- Layer 9 (set): the landed withFull. -/
import Derived.Test.YtakfabaocgbbmaaE0
namespace Go.Proofs.Ytakfabaocgbbmaa.Zs
open Go.RowKit
set_option linter.unusedVariables false
set_option linter.unusedSimpArgs false
open Go.Proofs.Ytakfabaocgbbmaa.Dig Go.Proofs.Ytakfabaocgbbmaa.Lx Go.Proofs.Ytakfabaocgbbmaa.Tk Go.Proofs.Ytakfabaocgbbmaa.Ti

theorem withFull_any {w0 : World} (v : Value) (xs : List Rn) (lo hi : Int) (w : World) (h : Rw w0 w v xs) (hl : xs.length ≤ 8000000) :
    Calls Try.prog 107 #[v, .int .i64 lo, .int .i64 hi] w (RetW w0 w v (xs ++ one lo hi)) := by
  obtain ⟨A, c, rfl⟩ := h.form
  by_cases hc : lo > hi
  · have e : xs ++ one lo hi = xs := by rw [one, if_neg (by omega), List.append_nil]
    rw [e]
    have H := Lib.hid h
    clear h e
    go_enter Try.func107, Try.ntmps107
    go_wp2
    go_ret
    exact ⟨_, _, _, rfl, rfl, H.out, .refl _ _⟩
  · have e : xs ++ one lo hi = xs ++ [(lo, hi)] := by rw [one, if_pos (by omega)]
    rw [e]
    have H := Lib.hid h
    have P := Lib.hid (Bx.fresh w #[.int .i64 lo, .int .i64 hi] 36).two
    clear h e
    go_enter Try.func107, Try.ntmps107
    go_wp2_with (at_builtin; refine wpList_app (H.out.since (since_alloc _ _)) (by omega) (lo, hi) w.heap.size 1 P.out.1 P.out.2 (by rfl) _ _ rfl rfl rfl ?_; intro A2 c2 w2 h2 h3)
    go_ret
    exact ⟨_, _, _, rfl, by simp, h2, h3.pre (since_alloc _ _)⟩
end Go.Proofs.Ytakfabaocgbbmaa.Zs
