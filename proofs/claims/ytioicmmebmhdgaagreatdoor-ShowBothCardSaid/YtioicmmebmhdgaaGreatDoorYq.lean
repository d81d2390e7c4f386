/- strconv.FormatInt at base 10, at any world in which the table is laid. -/
import Derived.Test.YtioicmmebmhdgaaGreatDoorShelfF
import Derived.Test.YtioicmmebmhdgaaGreatDoorVy
import Derived.Test.YtioicmmebmhdgaaGreatDoorLxe
import Derived.Lib.SmallJoins
import Derived.Lib.AppendIntMem
namespace Go.Proofs.YtioicmmebmhdgaaGreatDoor.Sh
open Go.RowKit
set_option linter.unusedVariables false
open Go.Proofs.YtioicmmebmhdgaaGreatDoor.Dig Go.Proofs.YtioicmmebmhdgaaGreatDoor.Lx Go.Proofs.YtioicmmebmhdgaaGreatDoor.Ps
/-- the table of the powers of ten is there -/
def TabIn (w : World) : Prop := Lib.TabIs Tryz.prog w "internal/strconv.uint64pow10" .u64 Lib.pow10Tab
theorem tab_global : Tryz.prog.globalNamed "internal/strconv.uint64pow10" = some 3 := by kernel_rfl
theorem tab_type : (Tryz.prog.globals[(3 : Nat)]?).map (·.type) = some 212 := by kernel_rfl
theorem tab_cells : Tryz.prog.cellsOf 212 = 20 := by kernel_rfl
theorem tab_cell : Tryz.prog.cellsOf 144 = 1 := by kernel_rfl
theorem tab_under : Tryz.prog.underlying 212 = some (.array 20 144) := Tryz.underlying212
theorem tab_elem : Tryz.prog.underlying 144 = some (.int .u64) := Tryz.underlying144
theorem TabIn.since {w w' : World} (h : TabIn w) (k : Since w w') : TabIn w' :=
  Joins.tab_stays (B := w.heap.size) tab_global h k (Nat.le_refl _)
theorem tab_of {w : World} {l : List (String × DataW Unit)} (h : laidMetH Tryz.prog l w) (hp : (l.filter fun x => x.2.handleName?.isSome) = []) (hm : ("internal/strconv.uint64pow10", Lib.tabData .u64 Lib.pow10Tab) ∈ l) : TabIn w := by
  unfold laidMetH at h
  rw [hp] at h
  obtain ⟨ps, h1, _⟩ := h
  obtain ⟨g, t, cs, fuel, p, hg, ht, hv, hd⟩ := Lex.laid_mem h1 hm
  obtain rfl := Option.some.inj (tab_global.symm.trans hg)
  obtain rfl := Option.some.inj (tab_type.symm.trans ht)
  unfold TabIn Lib.TabIs
  rw [hv, ← Lib.cells_of_tab tab_under tab_elem tab_cell tab_cells hd]
/-- a number's digits, where the table is laid -/
theorem format_any (n : Int) (hn : fits n) (w : World) (hw : TabIn w) :
    Calls Tryz.prog 130 #[.int .i64 n, .int .i64 10] w fun e w' => e = .returned (.string ⟨(Lib.itoa n).toArray⟩) ∧ Since w w' := by
  refine (Sh.strconv_FormatInt_10 n hn.1 (by have := hn.2; omega) w hw).mono ?_
  rintro e w' ⟨rfl, k, os, rfl⟩
  exact ⟨rfl, Lib.below_grow _ w (Nat.le_refl _) k os⟩
end Go.Proofs.YtioicmmebmhdgaaGreatDoor.Sh
