/- Layer 9 (set): what is asked of a set: the document's own Has. -/
import Derived.Test.YtoegbgkgenjplaaE0
import Derived.Test.YtoegbgkgenjplaaEj
namespace Go.Proofs.Ytoegbgkgenjplaa.Zs
open Go.RowKit
set_option linter.unusedVariables false
set_option linter.unusedSimpArgs false
open Go.Proofs.Ytoegbgkgenjplaa.Dig Go.Proofs.Ytoegbgkgenjplaa.Lx Go.Proofs.Ytoegbgkgenjplaa.Tk Go.Proofs.Ytoegbgkgenjplaa.Ti
theorem wrap_id {x : Int} (h1 : -9223372036854775808 ≤ x) (h2 : x ≤ 9223372036854775807) : IntKind.i64.wrap x = x := by simp [IntKind.wrap, IntKind.bits, IntKind.signed]; omega
end Go.Proofs.Ytoegbgkgenjplaa.Zs
