/- Layer 11 (sense): the document's own Holds, of any constraint. Layer 11 (sense): what the laws lean on. -/
import Derived.Test.YtakfabaocgbbmaaKx
import Derived.Test.YtakfabaocgbbmaaKy
import Derived.Test.YtakfabaocgbbmaaKz
import Derived.Test.YtakfabaocgbbmaaUv
import Derived.Test.YtakfabaocgbbmaaQbu
set_option maxHeartbeats 2000000
set_option maxRecDepth 20000
set_option linter.unusedVariables false
set_option linter.unusedSimpArgs false
section
namespace Go.Proofs.Ytakfabaocgbbmaa.Sn
open Go.RowKit
open Dig Lx Tk Ti Zs Tr
theorem rholds_any (v va:Value) (c:Cn) (a:List Int) (w:World) (h:ConAt w v c) (ha:Sl 1 QI w va a) (hx:c.x.length≤1100000) (hca:c.a.length≤1100000) (hla:a.length≤1100000) :
 Calls Try.prog 30 #[v,va] w (RetT (holds c a) w):=by
 cases hk:asked c a with
 | false =>
  have e:holds c a=false:=by rw[holds,hk]; rfl
  rw[e]
  have AK:=Lib.hid (fun W (k:Since w W)=>by have:=rasked_any v va c a W (h.since k) (ha.since stI k) hx hca hla; rw[hk] at this; exact this)
  obtain⟨vx,vy,rfl,h1,h2⟩:=h
  obtain⟨X,xc,rfl⟩:=h1.form
  obtain⟨Y,yc,rfl⟩:=h2.form
  obtain⟨A,ac,rfl⟩:=ha.form
  generalize c.x.length=nx at *
  generalize c.a.length=na at *
  generalize a.length=nl at *
  have ka:=Lib.hid (sA w (.cells #[.int .i64 c.k,.slice X nx xc,.slice Y na yc,.int .i64 c.c] 25))
  clear h1 h2 ha hk e
  go_enter Try.func30,Try.ntmps30
  go_wp2_with (go_at_call 62; (with_reducible refine (AK.out _ ka.out).mono ?_); rintro e w2 ⟨rfl,k2⟩)
  go_ret
  exact⟨rfl,ka.out.trans k2⟩
 | true =>
  have e:holds c a=holdV c.k (vals c.x a) c.a c.c:=by rw[holds,hk]; rfl
  rw[e]
  obtain⟨ck,cx,ca,cc⟩:=c
  simp only at *
  rcases kd_or ck with h1 | h1
  · cases h1
    · exact rholds1 v va cx ca cc a w h ha hx hca hla hk
    · exact rholds2 v va cx ca cc a w h ha hx hca hla hk
    · exact rholds3 v va cx ca cc a w h ha hx hca hla hk
    · exact rholds4 v va cx ca cc a w h ha hx hca hla hk
    · exact rholds5 v va cx ca cc a w h ha hx hca hla hk
    · exact rholds6 v va cx ca cc a w h ha hx hca hla hk
    · exact rholds7 v va cx ca cc a w h ha hx hca hla hk
    · exact rholds8 v va cx ca cc a w h ha hx hca hla hk
    · exact rholds9 v va cx ca cc a w h ha hx hca hla hk
    · exact rholds10 v va cx ca cc a w h ha hx hca hla hk
    · exact rholds11 v va cx ca cc a w h ha hx hca hla hk
    · exact rholds12 v va cx ca cc a w h ha hx hca hla hk
    · exact rholds13 v va cx ca cc a w h ha hx hca hla hk
    · exact rholds14 v va cx ca cc a w h ha hx hca hla hk
    · exact rholds15 v va cx ca cc a w h ha hx hca hla hk
    · exact rholds16 v va cx ca cc a w h ha hx hca hla hk
    · exact rholds17 v va cx ca cc a w h ha hx hca hla hk
    · exact rholds18 v va cx ca cc a w h ha hx hca hla hk
    · exact rholds19 v va cx ca cc a w h ha hx hca hla hk
  · exfalso
    obtain⟨q1,q2⟩:=asked_parts hk
    obtain⟨p1,p2,p3,p4,p5,p6,p7,p8⟩:=askV_all q2
    rw[shp_out h1] at p2
    cases p2
end Go.Proofs.Ytakfabaocgbbmaa.Sn
end
section
namespace Go.Proofs.Ytakfabaocgbbmaa.Sn
open Go.RowKit
open Dig Lx Tk Ti Zs Tr
theorem mlen {n:Nat} (h:n≤maxLen):n≤9223372036854775807:=h
end Go.Proofs.Ytakfabaocgbbmaa.Sn
end
