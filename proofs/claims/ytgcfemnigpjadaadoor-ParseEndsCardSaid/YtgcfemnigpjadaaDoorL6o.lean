/- What the walks of layer 6's laws lean on: calls' ends in letters. -/
import Derived.Test.YtgcfemnigpjadaaDoorL6b
import Derived.Test.YtgcfemnigpjadaaDoorL6c
import Derived.Test.YtgcfemnigpjadaaDoorR6b
namespace Go.Proofs.YtgcfemnigpjadaaDoor.Law06
open Go.RowKit
set_option linter.unusedVariables false
set_option linter.unusedSimpArgs false
open Go.Proofs.YtgcfemnigpjadaaDoor.Dig Go.Proofs.YtgcfemnigpjadaaDoor.Lx Go.Proofs.YtgcfemnigpjadaaDoor.Tk Go.Proofs.YtgcfemnigpjadaaDoor.Ps Go.Proofs.YtgcfemnigpjadaaDoor.Ti

theorem ours_at (A0 : Option Addr) (c0 n : Nat) (xs : List It) (w : World) (G : Nat → Prop) (h : Sl 8 (QI G) w (.slice A0 n c0) xs) (hG : ∀ b, G b → b < w.heap.size) (hn : xs.length = n) (hl : n ≤ 10000) (hm : ∀ x ∈ xs, Bd x) :
    Calls Tryd.prog 11 #[.slice A0 n c0] w fun x w' => ∃ A c cs, x = .returned (.slice A n c) ∧ w'.ownsRow w.heap.size 51 8 (.slice A n c) n cs ∧ Rws 8 (QI (own G (.slice A n c)) w') xs cs ∧ Since w w' := by
  subst hn
  exact ours_any _ xs w G h hG hl (fun x hx => ⟨Nat.le_trans (hm x hx).2.1 (by decide), fun y hy => Nat.le_trans ((hm x hx).2.2 y hy) (by decide)⟩)
theorem same_at (A B : Option Addr) (n c d : Nat) (xs : List It) (w : World) (ha : Items w (.slice A n c) xs) (hb : Items w (.slice B n d) xs) (hl : n ≤ 10000) (hm : ∀ x ∈ xs, Bd x) :
    Calls Tryd.prog 10 #[.slice A n c, .slice B n d] w fun e w' => e = .returned (.bool true) ∧ Since w w' :=
  Ref06.same_items _ _ xs w ha hb (by have := ha.at_.1; omega) (fun x hx => ⟨Nat.le_trans (hm x hx).1 (by decide), Nat.le_trans (hm x hx).2.1 (by decide), fun y hy => Nat.le_trans ((hm x hx).2.2 y hy) (by decide)⟩)
end Go.Proofs.YtgcfemnigpjadaaDoor.Law06
