/- Layer 15 (logic): the landed all. -/
import Derived.Test.YtilgmkhcpmegjaaCh
namespace Go.Proofs.Ytilgmkhcpmegjaa.Lgc
open Go.RowKit
set_option linter.unusedVariables false
set_option linter.unusedSimpArgs false
open Go.Proofs.Ytilgmkhcpmegjaa.Dig Go.Proofs.Ytilgmkhcpmegjaa.Lx Go.Proofs.Ytilgmkhcpmegjaa.Tk Go.Proofs.Ytilgmkhcpmegjaa.Ti Go.Proofs.Ytilgmkhcpmegjaa.Zs Go.Proofs.Ytilgmkhcpmegjaa.Tr Go.Proofs.Ytilgmkhcpmegjaa.Sn Go.Proofs.Ytilgmkhcpmegjaa.Ln Go.Proofs.Ytilgmkhcpmegjaa.At
set_option maxRecDepth 20000 in
set_option maxHeartbeats 2000000 in
theorem all_any {g n : Nat} {w0 W : World} {X : List Int} {D : Ln.Ds} {A : Option Addr} {m c : Nat} (h : PL g n w0 W X D A m c) (hm : 0 < m) {s : Int} (hs : s = 0 ∨ s = 1) :
    Calls Try.prog 68 #[.agg #[.slice A m c, .slice (some ⟨g, 0, none⟩) n n], .int .i64 s] W (RetL g n w0 W (andS (X.take (m - 1)) (X.getD (m - 1) 0) s D)) := by
  obtain ⟨f, hfm⟩ : ∃ f, m = f + 1 := ⟨m - 1, by omega⟩
  have hf : f < m := by omega
  rw [show m - 1 = f by omega]
  subst hfm
  have hR : ∀ x ∈ X.take f, Inn n x := fun x hx => h.in_ x (List.mem_of_mem_take hx)
  have hF := h.in_ _ (h.mem hf)
  have hm32 : f + 1 ≤ 32 := h.le
  have ka := Lib.hid (since_alloc W (.cells #[.slice A (f + 1) c, .slice (some ⟨g, 0, none⟩) n n] 84))
  have BP := Lib.hid (Bx.fresh W #[.slice A (f + 1) c, .slice (some ⟨g, 0, none⟩) n n] 84)
  have hgW : W.heap.size ≠ g := by have := h.hi_; omega
  have wm : IntKind.i64.wrap ((f : Int) + 1 - 1) = (f : Int) := by rw [wrap_id' (by omega) (by omega)]; omega
  have wm2 : IntKind.i64.wrap (f : Int) = (f : Int) := wrap_id' (by omega) (by omega)
  cases ho : decS (X.take f) (X.getD f 0) s D with
  | none =>
    have AO : andS (X.take f) (X.getD f 0) s D = none := by unfold andS thn; rw [ho]; rfl
    rw [AO]
    have DE := Lib.hid (fun w (k : Since W w) => (decide_any (h.since k) hf hs).mono fun e w' hh => RetL.is_none (RetL.up hh k) ho)
    clear AO ho h hR hF
    obtain ⟨x0, x1⟩ := BP.out.two
    go_enter Try.func68, Try.ntmps68
    go_wp2_with (go_at_call 129; (with_reducible refine (DE.out _ ka.out).mono ?_); rintro e w1 ⟨rfl, k4⟩; skip)
    go_ret
    exact .none_ k4
  | some E =>
    have AO : andS (X.take f) (X.getD f 0) s D = demS (X.take f) (X.getD f 0) s E := by unfold andS thn; rw [ho]; rfl
    rw [AO]
    obtain ⟨g1, s1, -⟩ := (and_dec (s := s) hR hF).ok D E h.gd h.at_.len ho
    have hno := dec_not hs h.gd h.at_.len hR hF ho
    have DE := Lib.hid (fun w (k : Since W w) => (decide_any (h.since k) hf hs).mono fun e w' hh => show e = .returned (.bool true) ∧ DAt g n w0 w' E ∧ Og g W w' ∧ Og g w w' from ⟨(RetL.is_some (RetL.up hh k) ho).1, (RetL.is_some (RetL.up hh k) ho).2.1, (RetL.is_some (RetL.up hh k) ho).2.2, hh.2.2⟩)
    have BB := Lib.hid (fun w' (ko : Og g (W.alloc (.cells #[.slice A (f + 1) c, .slice (some ⟨g, 0, none⟩) n n] 84)) w') => Og.bx ko BP.out hgW)
    have DM := Lib.hid (fun w (hd : DAt g n w0 w E) (ko : Og g W w) => show Calls Try.prog 130 #[.agg #[.slice A (f + 1) c, .slice (some ⟨g, 0, none⟩) n n], .int .i64 (f : Int), .int .i64 s] w (RetL g n w0 W (demS (X.take f) (X.getD f 0) s E)) from (demand_any (h.step hd ko g1 s1) hf hs hno).mono fun e w' hh => ⟨hh.1, hh.2.1, ko.trans hh.2.2⟩)
    have BO := Lib.hid (fun w (ko : Og g W w) => ko)
    generalize demS (X.take f) (X.getD f 0) s E = o at *
    clear AO ho h hR hF hno
    obtain ⟨x0, x1⟩ := BP.out.two
    go_enter Try.func68, Try.ntmps68
    go_wp2_with (first | (go_at_call 129; (with_reducible refine (DE.out _ ka.out).mono ?_); rintro e w1 ⟨rfl, k3, k4, k5⟩; have D1 := Lib.hid k3; have K1 := Lib.hid k4; obtain ⟨x0, x1⟩ := (BB.out _ k5).two; clear k3 k4 k5) | (go_at_call 130; (with_reducible refine (DM.out _ D1.out K1.out).mono ?_); rintro e w3 ⟨rfl, k3, k4⟩))
    go_ret
    exact ⟨rfl, k3, k4⟩
end Go.Proofs.Ytilgmkhcpmegjaa.Lgc
