/- Layer 11 (sense): the document's own linear, lin. -/
import Derived.Test.YtakfabaocgbbmaaKr
import Derived.Test.YtakfabaocgbbmaaUt
set_option maxHeartbeats 3000000
set_option maxRecDepth 20000
namespace Go.Proofs.Ytakfabaocgbbmaa.Sn
open Go.RowKit
set_option linter.unusedVariables false
set_option linter.unusedSimpArgs false
open Dig Lx Tk Ti Zs Tr
def linV (k n c fl:Int):Bool:=if k=1 then n == c else if k=2 then decide (n≤c) else if k=3 then n != c else if k=4 then (fl == 1) == (n == c) else if k=5 then (fl == 1) == decide (n≤c) else (fl == 0) || decide (n≤c)
theorem rlinear_any (k:Int) (w:World):Calls Try.prog 61 #[.int .i64 k] w (fun e w'=>e = .returned (.bool (decide (1≤k∧k≤6)))∧w'=w):=by
 by_cases c1:1≤k
 · by_cases c2:k≤6
   · rw[decide_eq_true ⟨c1,c2⟩]
     go_enter Try.func61,Try.ntmps61
     go_wp2
     go_ret
     exact⟨rfl,rfl⟩
   · rw[decide_eq_false (fun e=>c2 e.2)]
     go_enter Try.func61,Try.ntmps61
     go_wp2
     go_ret
     exact⟨rfl,rfl⟩
 · rw[decide_eq_false (fun e=>c1 e.1)]
   go_enter Try.func61,Try.ntmps61
   go_wp2
   go_ret
   exact⟨rfl,rfl⟩
theorem rlin_any (v vv:Value) (c:Cn) (l:List Int) (fl:Int) (w:World) (h:ConAt w v c) (hv:Sl 1 QI w vv l) (hn:c.a.length≤l.length) (hl:c.a.length≤1000) (hwa:c.a.all within=true) (hwv:l.all within=true) (hk:1≤c.k∧c.k≤6) :
 Calls Try.prog 66 #[v,vv,.int .i64 fl] w (RetT (linV c.k (sm c.a l) c.c fl) w):=by
 obtain⟨n,hns⟩:∃ n,sm c.a l=n:=⟨_,rfl⟩
 have SM:=Lib.hid (fun W (k:Since w W)=>by have:=rsum_any v vv c l W (h.since k) (hv.since stI k) hn hl hwa hwv; rw[hns] at this; exact this)
 rw[hns]
 obtain⟨vx,vy,rfl,h1,h2⟩:=h
 obtain⟨ck,cx,ca,cc⟩:=c
 simp only at *
 obtain⟨X,xc,rfl⟩:=h1.form
 obtain⟨Y,yc,rfl⟩:=h2.form
 obtain⟨V,vc,rfl⟩:=hv.form
 generalize cx.length=nx at *
 generalize ca.length=na at *
 generalize l.length=nv at *
 have ka:=Lib.hid (sA w (.cells #[.int .i64 ck,.slice X nx xc,.slice Y na yc,.int .i64 cc] 25))
 have BC:=Lib.hid (Bx.fresh w #[.int .i64 ck,.slice X nx xc,.slice Y na yc,.int .i64 cc] 25)
 have hk6:ck=1∨ck=2∨ck=3∨ck=4∨ck=5∨ck=6:=by omega
 clear h1 h2 hv hn hl hwa hwv hns hk
 rcases hk6 with rfl | rfl | rfl | rfl | rfl | rfl
 all_goals
  go_enter Try.func66,Try.ntmps66
  go_wp2_with (go_at_call 63; (with_reducible refine (SM.out _ ka.out).mono ?_); rintro e w1 ⟨rfl,k1⟩; have K1:=Lib.hid k1; obtain⟨b0,b1,b2,b3⟩:=bx4 (BC.out.since k1); clear k1)
  all_goals
   go_ret
   refine RetT.of ?_ (ka.out.trans K1.out)
   first | rfl | (simp[linV]; done) | (simp_all [linV]; done) | (by_cases e1:n=cc <;> by_cases e2:n≤cc <;> by_cases e3:fl=1 <;> by_cases e4:fl=0 <;> simp[linV,e1,e2,e3,e4])
theorem shp_num {k:Int} {n m:Nat} (h:shp k n m=true) (hk:1≤k∧k≤6):m≤n:=sum_le h hk
section
open Go.RowKit
set_option linter.unusedVariables false
set_option linter.unusedSimpArgs false
open Dig Lx Tk Ti Zs Tr
theorem Rb.sl {w0 w:World} {v:Value} {xs:List Int} (h:Rb w0 w v xs):Sl 1 QI w v xs:=by
 obtain⟨b1,h1,h2⟩:=h
 exact (Rz.of h2).sl
theorem rvalues_at {v va:Value} {c:Cn} {a:List Int} {w:World} (h:ConAt w v c) (ha:Sl 1 QI w va a) (hx:c.x.length≤32) (hin:inR c.x a=true) (W:World) (k:Since w W) :
 Calls Try.prog 64 #[v,va] W (fun e w'=>∃ B bc,e = .returned (.slice B c.x.length bc)∧Rb w w' (.slice B c.x.length bc) (vals c.x a)∧Since W w'):=
 (rvalues_any v va c a W (h.since k) (ha.since stI k) (by omega) hin).mono fun e w' ⟨B,bc,h1,h2⟩=>⟨B,bc,h1,⟨W,k,h2⟩,h2.s⟩
end
section
set_option linter.unusedVariables false
open Zs
theorem last_bit {k:Int} {v:List Int} (h:(bools k v).all bit=true) (hp:0<v.length) (hk:k=4∨k=5∨k=6∨k=11∨k=12∨k=13∨k=14):lastV v=0∨lastV v=1:=by
 have hm:lastV v ∈ bools k v:=by
  have e:lastV v=v[v.length - 1]:=by simp[lastV,List.getD,show v.length - 1<v.length by omega]
  rw[e]
  unfold bools
  by_cases c:k=4∨k=5∨k=6
  · rw[if_pos c,List.drop_eq_getElem_cons (by omega)]; exact List.mem_cons_self
  · rw[if_neg c,if_pos (by omega)]; exact List.getElem_mem _
 exact (bit_iff _).1 (List.all_eq_true.1 h _ hm)
theorem hold_lin {k:Int} {v a:List Int} {c:Int} (hk:1≤k∧k≤6) (h:askV k v a c=true):linV k (sm a v) c (lastV v)=holdV k v a c:=by
 obtain⟨p1,p2,p3,p4,p5,p6,p7,p8⟩:=askV_all h
 have hk6:k=1∨k=2∨k=3∨k=4∨k=5∨k=6:=by omega
 rcases hk6 with rfl | rfl | rfl | rfl | rfl | rfl
 · rfl
 · rfl
 · rfl
 · rfl
 · rfl
 · show ((lastV v == 0) || decide (sm a v≤c))=(!(lastV v == 1) || decide (sm a v≤c))
   have:=shp_pos p2 (by omega)
   rcases last_bit p8 (by omega) (by omega) with e | e <;> rw[e] <;> rfl
theorem hold_clause {v a:List Int} {c:Int} (h:askV 11 v a c=true):(a.zip v).any clauseE=holdV 11 v a c:=by
 obtain⟨p1,p2,p3,p4,p5,p6,p7,p8⟩:=askV_all h
 simp only[sgn,Bool.and_eq_true] at p3
 exact clause_lits p3.1 p8
theorem other_bit {v:List Int} (h:v.all bit=true):∀ x ∈ other v,x=0∨x=1:=fun x hx =>
 (bit_iff _).1 (List.all_eq_true.1 h _ (List.mem_of_mem_take hx))
theorem hold_and {v a:List Int} {c:Int} (h:askV 12 v a c=true):((lastV v == 1) == ((other v).count 1 == (other v).length))=holdV 12 v a c:=by
 obtain⟨p1,p2,p3,p4,p5,p6,p7,p8⟩:=askV_all h
 rw[count_all (other_bit (v:=v) p8)]; rfl
theorem hold_or {v a:List Int} {c:Int} : ((lastV v == 1) == decide (0<(other v).count 1))=holdV 13 v a c:=by
 rw[count_some]; rfl
theorem hold_unlike {v a:List Int} {c:Int} : unlikeV v=holdV 18 v a c:=unlike_differ v
theorem hold_tasks {v a:List Int} {c:Int} (h:askV 19 v a c=true):tasksV v a c=holdV 19 v a c:=by
 obtain⟨p1,p2,p3,p4,p5,p6,p7,p8⟩:=askV_all h
 have hl:a.length=2*v.length:=by simpa [shp] using p2
 simp only[sgn,Bool.and_eq_true] at p3
 have hc:0≤c:=by simpa using p3.2
 refine tasks_never hl hc fun n hn => ?_
 have:=List.all_eq_true.1 p3.1 n hn
 simp[okE] at this
 exact this
theorem hold_velem {v a:List Int} {c:Int} (h:askV 17 v a c=true):(decide (1≤v.getD 0 0) && decide (v.getD 0 0<(v.length:Int) - 1) && (v.getD (v.getD 0 0).toNat 0 == lastV v))=holdV 17 v a c:=by
 obtain⟨p1,p2,p3,p4,p5,p6,p7,p8⟩:=askV_all h
 have hl:3≤v.length:=by have:=p2; simp[shp] at this; exact this.1
 show _=chosen v ((other v).drop 1)
 generalize hq:v.getD 0 0=q
 have hlen:((other v).drop 1).length=v.length - 2:=by simp[other]; omega
 rw[chosen,hq,hlen]
 by_cases c1:1≤q
 · by_cases c2:q<(v.length:Int) - 1
   · have h3:q≤((v.length - 2:Nat):Int):=by omega
     have hq0:(q - 1).toNat=q.toNat - 1:=by omega
     have hlt:q.toNat<v.length - 1:=by omega
     have e:((other v).drop 1).getD (q - 1).toNat 0=v.getD q.toNat 0:=by
      rw[hq0]
      simp only[other,List.getD,List.getElem?_drop,show 1+(q.toNat - 1)=q.toNat by omega,List.getElem?_take_of_lt hlt]
     rw[decide_eq_true c1,decide_eq_true c2,decide_eq_true h3,e]
   · rw[decide_eq_false c2,decide_eq_false (show ¬ q≤((v.length - 2:Nat):Int) by omega)]; simp
 · rw[decide_eq_false c1]; simp
end
end Go.Proofs.Ytakfabaocgbbmaa.Sn
