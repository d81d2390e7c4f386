/- Layer 11 (sense): what the laws lean on. -/
import Derived.Test.YtilgmkhcpmegjaaQbp
import Derived.Test.YtilgmkhcpmegjaaQbc
namespace Go.Proofs.Ytilgmkhcpmegjaa.Sn
open Go.RowKit
set_option linter.unusedVariables false
set_option linter.unusedSimpArgs false
open Go.Proofs.Ytilgmkhcpmegjaa.Dig Go.Proofs.Ytilgmkhcpmegjaa.Lx Go.Proofs.Ytilgmkhcpmegjaa.Tk Go.Proofs.Ytilgmkhcpmegjaa.Ti Go.Proofs.Ytilgmkhcpmegjaa.Zs Go.Proofs.Ytilgmkhcpmegjaa.Tr
theorem con_open {w : World} {k : Int} {X : Option Addr} {n xc : Nat} {Y : Option Addr} {m yc : Nat} {e : Int} {c : Cn} (h : ConAt w (.agg #[.int .i64 k, .slice X n xc, .slice Y m yc, .int .i64 e]) c) :
    k = c.k ∧ e = c.c ∧ Sl 1 QI w (.slice X n xc) c.x ∧ Sl 1 QI w (.slice Y m yc) c.a ∧ n = c.x.length ∧ m = c.a.length := by
  obtain ⟨vx, va, h1, h2, h3⟩ := h
  injection h1 with h1
  have h1 : [Value.int .i64 k, .slice X n xc, .slice Y m yc, .int .i64 e] = [.int .i64 c.k, vx, va, .int .i64 c.c] := congrArg Array.toList h1
  simp only [List.cons.injEq, and_true, Value.int.injEq, true_and] at h1
  obtain ⟨r1, rfl, rfl, r2⟩ := h1
  exact ⟨r1, r2, h2, h3, h2.at_.1, h3.at_.1⟩
end Go.Proofs.Ytilgmkhcpmegjaa.Sn
