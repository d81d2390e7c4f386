/- Layer 11 (sense): the landed words of a placed constraint, as calls that give one value in all later worlds. -/
import Derived.Test.YtakfabaocgbbmaaUl
import Derived.Test.YtakfabaocgbbmaaUj
set_option maxHeartbeats 4000000
set_option maxRecDepth 20000
namespace Go.Proofs.Ytakfabaocgbbmaa.Sn
open Go.RowKit
set_option linter.unusedVariables false
set_option linter.unusedSimpArgs false
open Dig Lx Tk Ti Zs Tr
theorem flag_at {u:Value} {k:Int} {x a:List Int} {c:Int} {v:List Int} {w:World} (h:PlAt w u k x a c v) (hv:0<v.length) (hl:v.length≤1100000) {F:Bool} (hF:flg v=F) (W:World) (kk:Since w W) :
 Calls Try.prog 93 #[u] W (fun e w'=>e = .returned (.bool F)∧Since W w'∧True):=by
 subst hF
 exact (flag_any u k x a c v W (h.since kk) hv hl).mono fun e w' h=>⟨h.1,h.2,trivial⟩
theorem sum_at {u:Value} {k:Int} {x a:List Int} {c:Int} {v:List Int} {w:World} (h:PlAt w u k x a c v) (hn:a.length≤v.length) (hl:v.length≤1000) (ha:a.all within=true) (hv:v.all within=true) {S:Int} (hS:sm a v=S) (W:World) (kk:Since w W) :
 Calls Try.prog 60 #[u] W (fun e w'=>e = .returned (.int .i64 S)∧Since W w'∧True):=by
 subst hS
 exact (sum_any u k x a c v W (h.since kk) hn hl ha hv).mono fun e w' h=>⟨h.1,h.2,trivial⟩
theorem contains_at {vs:Value} {l:List Int} {w:World} (h:Sl 1 QI w vs l) (hl:l.length≤1100000) {n:Int} {b:Bool} (hb:l.contains n=b) (W:World) (kk:Since w W) :
 Calls Try.prog 95 #[vs,.int .i64 n] W (fun e w'=>e = .returned (.bool b)∧Since W w'∧True):=by
 subst hb
 exact (containsI_any vs l n W (h.since stI kk) hl).mono fun e w' h=>⟨h.1,h.2,trivial⟩
theorem chosen_at {u vl:Value} {k:Int} {x a:List Int} {c:Int} {v l:List Int} {w:World} (h:PlAt w u k x a c v) (hL:Sl 1 QI w vl l) (hv:0<v.length) (hl:v.length≤1100000) (hll:l.length≤1100000) (hq:fits (v.getD 0 0)) {b:Bool} (hb:chosen v l=b) (W:World) (kk:Since w W) :
 Calls Try.prog 97 #[u,vl] W (fun e w'=>e = .returned (.bool b)∧Since W w'∧True):=by
 subst hb
 exact (chosenFrom_any u vl k x a c v l W (h.since kk) (hL.since stI kk) hv hl hll hq).mono fun e w' h=>⟨h.1,h.2,trivial⟩
theorem others_at (k:Int) (X Y V:Option Addr) (nx xc na yc j vc:Nat) (c:Int) (w0:World) (hj:j≤1100000) (hc:j+1≤vc) (w:World) (kk:Since w0 w) :
 Calls Try.prog 96 #[.agg #[.int .i64 k,.slice X nx xc,.slice Y na yc,.int .i64 c,.slice V (j+1) vc]] w (fun e w'=>e = .returned (.slice V j vc)∧Since w w'∧True):=by
 have ka:=Lib.hid (sA w (.cells #[.int .i64 k,.slice X nx xc,.slice Y na yc,.int .i64 c,.slice V (j+1) vc] 73))
 have ei:((j+1:Nat):Int) - 1=(j:Int):=by omega
 clear kk
 go_enter Try.func96,Try.ntmps96
 go_wp2
 go_ret
 exact⟨rfl,ka.out,trivial⟩
theorem all_at {f:Int→Bool} {l:List Int} (h:l.all f=true) {i:Nat} (hi:i<l.length):f (l.getD i 0)=true:=by
 have e:l.getD i 0=l[i]:=by simp[List.getD,hi]
 rw[e]; exact List.all_eq_true.1 h _ (List.getElem_mem hi)
theorem fits_at {l:List Int} (h:l.all within=true) {i:Nat} (hi:i<l.length) : -1048576≤l.getD i 0∧l.getD i 0≤1048576:=(within_iff' _).1 (all_at h hi)
end Go.Proofs.Ytakfabaocgbbmaa.Sn
