/- What Item and Right of the landed show give back. Item of the landed show, case by case. Item of the landed sh -/
import Derived.Test.YtjmmcnldfkjebaaGreatDoorKc
import Derived.Test.YtjmmcnldfkjebaaGreatDoorUd
namespace Go.Proofs.YtjmmcnldfkjebaaGreatDoor.Pge
open Go.RowKit
set_option linter.unusedVariables false
set_option linter.unusedSimpArgs false
open Dig Lx Tk Ps Ti Sh Law07 Law06
open Lex (ErrIn)
theorem argI_since {w w':World} {x:Iq} {u:Array Value} (h:ArgI w x u) (k:Since w w'):ArgI w' x u:=by
 obtain⟨A1,c1,A2,c2,rfl,h1,h2⟩:=h
 exact⟨A1,c1,A2,c2,rfl,h1.since stR k,h2.since (stXq noG) k⟩
theorem cells8 {w:World} {b o:Nat} {u0 u1 u2 u3 u4 u5 u6 u7:Value} (h:∀ j y,([u0,u1,u2,u3,u4,u5,u6,u7]:List Value)[j]?=some y→w.cell? ⟨b,o+j,none⟩=some y) (W:World) (k:Since w W) :
 W.cell? ⟨b,o,none⟩=some u0∧W.cell? ⟨b,o+1,none⟩=some u1∧W.cell? ⟨b,o+2,none⟩=some u2∧W.cell? ⟨b,o+3,none⟩=some u3∧W.cell? ⟨b,o+4,none⟩=some u4∧W.cell? ⟨b,o+5,none⟩=some u5∧W.cell? ⟨b,o+6,none⟩=some u6∧W.cell? ⟨b,o+7,none⟩=some u7:=by
 have up:∀ {p:Addr} {u:Value},w.cell? p=some u→W.cell? p=some u:=fun g=>(k.cell _ (World.block_lt_of_cell? _ _ g)).trans g
 exact⟨up (h 0 _ rfl),up (h 1 _ rfl),up (h 2 _ rfl),up (h 3 _ rfl),up (h 4 _ rfl),up (h 5 _ rfl),up (h 6 _ rfl),up (h 7 _ rfl)⟩
set_option maxRecDepth 20000 in
set_option maxHeartbeats 4000000 in
theorem item_bad (ki:Int) (nm:ByteArray) (bo:Bool) (sz:Int) (ou:Bool) (ak:Int) (A1 A2:Option Addr) (p m c1 c2:Nat) (T:ByteArray) (l:List It) (n:Nat) (p0 er:Int) (w:World) (hz:er≠0) (hT:∀ W,Since w W→Calls Tryz.prog 17 #[.agg #[.int .i64 ki,.string nm,.bool bo,.slice A1 p c1,.int .i64 sz,.bool ou,.slice A2 m c2,.int .i64 ak]] W fun e w'=>e = .returned (.string T)∧Since W w') (hP:∀ W,Since w W→Calls Tryz.prog 18 #[.string T] W fun x w'=>∃ A c,x = .returned (.tuple #[.slice A n c,.int .i64 p0,.int .i64 er])∧Items w' (.slice A n c) l∧Since W w') :
 Calls Tryz.prog 9 #[.agg #[.int .i64 ki,.string nm,.bool bo,.slice A1 p c1,.int .i64 sz,.bool ou,.slice A2 m c2,.int .i64 ak]] w fun e w'=>e = .returned (.tuple #[.string ⟨#[]⟩,.int .i64 2])∧Since w w':=by
 have ka:=lH (sA w (.cells #[.int .i64 ki,.string nm,.bool bo,.slice A1 p c1,.int .i64 sz,.bool ou,.slice A2 m c2,.int .i64 ak] 42))
 have GB:=lH (Bx.fresh w #[.int .i64 ki,.string nm,.bool bo,.slice A1 p c1,.int .i64 sz,.bool ou,.slice A2 m c2,.int .i64 ak] 42)
 obtain⟨g0,g1,g2,g3,g4,g5,g6,g7⟩:=bx8 GB.out
 have TX:=lH hT
 have PT:=lH hP
 clear hT hP
 have z1:(er != 0)=true:=by rw[bne,Bool.not_eq_true',beq_eq_false_iff_ne]; exact hz
 clear hz
 go_enter Tryz.func9,Tryz.ntmps9
 go_wp2_with (first
  | (go_at_call 17; (with_reducible refine (TX.out _ ka.out).mono ?_); rintro e w1 ⟨rfl,h1⟩; have k1:=ka.out.trans h1)
  | (go_at_call 18; (with_reducible refine (PT.out _ k1).mono ?_); rintro e w2 ⟨A,c,rfl,hI,h2⟩; have k2:=k1.trans h2; have gb2:=lH ((GB.out.since h1).since h2); obtain⟨g0,g1,g2,g3,g4,g5,g6,g7⟩:=bx8 gb2.out; obtain⟨q0,q1,q2,q3,q4,q5,q6,q7⟩:=bx8 (gb2.out.since (show Since w2 w2.drew from Since.drew (Since.refl _)))))
 go_region
 all_goals go_wp2
 all_goals go_ret2
 all_goals exact⟨rfl,by first | exact k2 | exact Since.drew k2⟩
end Go.Proofs.YtjmmcnldfkjebaaGreatDoor.Pge
namespace Go.Proofs.YtjmmcnldfkjebaaGreatDoor.Pge
open Go.RowKit
set_option linter.unusedVariables false
set_option linter.unusedSimpArgs false
open Dig Lx Tk Ps Ti Sh Law07 Law06
open Lex (ErrIn)
set_option maxRecDepth 20000 in
set_option maxHeartbeats 4000000 in
theorem item_many (ki:Int) (nm:ByteArray) (bo:Bool) (sz:Int) (ou:Bool) (ak:Int) (A1 A2:Option Addr) (p m c1 c2:Nat) (T:ByteArray) (l:List It) (n:Nat) (p0:Int) (w:World) (hz:n≠1) (hT:∀ W,Since w W→Calls Tryz.prog 17 #[.agg #[.int .i64 ki,.string nm,.bool bo,.slice A1 p c1,.int .i64 sz,.bool ou,.slice A2 m c2,.int .i64 ak]] W fun e w'=>e = .returned (.string T)∧Since W w') (hP:∀ W,Since w W→Calls Tryz.prog 18 #[.string T] W fun x w'=>∃ A c,x = .returned (.tuple #[.slice A n c,.int .i64 p0,.int .i64 0])∧Items w' (.slice A n c) l∧Since W w') :
 Calls Tryz.prog 9 #[.agg #[.int .i64 ki,.string nm,.bool bo,.slice A1 p c1,.int .i64 sz,.bool ou,.slice A2 m c2,.int .i64 ak]] w fun e w'=>e = .returned (.tuple #[.string ⟨#[]⟩,.int .i64 2])∧Since w w':=by
 have ka:=lH (sA w (.cells #[.int .i64 ki,.string nm,.bool bo,.slice A1 p c1,.int .i64 sz,.bool ou,.slice A2 m c2,.int .i64 ak] 42))
 have GB:=lH (Bx.fresh w #[.int .i64 ki,.string nm,.bool bo,.slice A1 p c1,.int .i64 sz,.bool ou,.slice A2 m c2,.int .i64 ak] 42)
 obtain⟨g0,g1,g2,g3,g4,g5,g6,g7⟩:=bx8 GB.out
 have TX:=lH hT
 have PT:=lH hP
 clear hT hP
 have z1:((n:Int) != 1)=true:=by rw[bne,Bool.not_eq_true',beq_eq_false_iff_ne]; omega
 clear hz
 go_enter Tryz.func9,Tryz.ntmps9
 go_wp2_with (first
  | (go_at_call 17; (with_reducible refine (TX.out _ ka.out).mono ?_); rintro e w1 ⟨rfl,h1⟩; have k1:=ka.out.trans h1)
  | (go_at_call 18; (with_reducible refine (PT.out _ k1).mono ?_); rintro e w2 ⟨A,c,rfl,hI,h2⟩; have k2:=k1.trans h2; have gb2:=lH ((GB.out.since h1).since h2); obtain⟨g0,g1,g2,g3,g4,g5,g6,g7⟩:=bx8 gb2.out; obtain⟨q0,q1,q2,q3,q4,q5,q6,q7⟩:=bx8 (gb2.out.since (show Since w2 w2.drew from Since.drew (Since.refl _)))))
 go_region
 all_goals go_wp2
 all_goals go_ret2
 all_goals exact⟨rfl,by first | exact k2 | exact Since.drew k2⟩
end Go.Proofs.YtjmmcnldfkjebaaGreatDoor.Pge
namespace Go.Proofs.YtjmmcnldfkjebaaGreatDoor.Pge
open Go.RowKit
set_option linter.unusedVariables false
set_option linter.unusedSimpArgs false
open Dig Lx Tk Ps Ti Sh Law07 Law06
open Lex (ErrIn)
set_option maxRecDepth 20000 in
set_option maxHeartbeats 4000000 in
theorem item_one (ki:Int) (nm:ByteArray) (bo:Bool) (sz:Int) (ou:Bool) (ak:Int) (A1 A2:Option Addr) (p m c1 c2:Nat) (T:ByteArray) (a1:Int) (a2:ByteArray) (a3:Bool) (a4:List (Int × Int)) (a5:Int) (a6:Bool) (a7:List Xp) (a8:Int) (p0:Int) (w:World) (hT:∀ W,Since w W→Calls Tryz.prog 17 #[.agg #[.int .i64 ki,.string nm,.bool bo,.slice A1 p c1,.int .i64 sz,.bool ou,.slice A2 m c2,.int .i64 ak]] W fun e w'=>e = .returned (.string T)∧Since W w') (hP:∀ W,Since w W→Calls Tryz.prog 18 #[.string T] W fun x w'=>∃ A c,x = .returned (.tuple #[.slice A 1 c,.int .i64 p0,.int .i64 0])∧Items w' (.slice A 1 c) [⟨a1,a2,a3,a4,a5,a6,a7,a8⟩]∧Since W w')
 (hS:∀ W,Since w W→∀ u1:List Value,QI noG W ⟨a1,a2,a3,a4,a5,a6,a7,a8⟩ u1→∃ B1 n1 d1 B2 n2 d2,u1 = [.int .i64 a1,.string a2,.bool a3,.slice B1 n1 d1,.int .i64 a5,.bool a6,.slice B2 n2 d2,.int .i64 a8]∧∀ W2,Since W W2→Calls Tryz.prog 19 #[.agg #[.int .i64 a1,.string a2,.bool a3,.slice B1 n1 d1,.int .i64 a5,.bool a6,.slice B2 n2 d2,.int .i64 a8],.agg #[.int .i64 ki,.string nm,.bool bo,.slice A1 p c1,.int .i64 sz,.bool ou,.slice A2 m c2,.int .i64 ak]] W2 fun e w'=>e = .returned (.bool true)∧Since W2 w') :
 Calls Tryz.prog 9 #[.agg #[.int .i64 ki,.string nm,.bool bo,.slice A1 p c1,.int .i64 sz,.bool ou,.slice A2 m c2,.int .i64 ak]] w fun e w'=>e = .returned (.tuple #[.string T,.int .i64 0])∧Since w w':=by
 have ka:=lH (sA w (.cells #[.int .i64 ki,.string nm,.bool bo,.slice A1 p c1,.int .i64 sz,.bool ou,.slice A2 m c2,.int .i64 ak] 42))
 have GB:=lH (Bx.fresh w #[.int .i64 ki,.string nm,.bool bo,.slice A1 p c1,.int .i64 sz,.bool ou,.slice A2 m c2,.int .i64 ak] 42)
 obtain⟨g0,g1,g2,g3,g4,g5,g6,g7⟩:=bx8 GB.out
 have TX:=lH hT
 have PT:=lH hP
 clear hT hP
 have SI:=lH hS
 clear hS
 go_enter Tryz.func9,Tryz.ntmps9
 go_wp2_with (first
  | (go_at_call 17; (with_reducible refine (TX.out _ ka.out).mono ?_); rintro e w1 ⟨rfl,h1⟩; have k1:=ka.out.trans h1)
  | (go_at_call 18; (with_reducible refine (PT.out _ k1).mono ?_); rintro e w2 ⟨A,c,rfl,hI,h2⟩; have k2:=k1.trans h2; have gb2:=lH ((GB.out.since h1).since h2); obtain⟨g0,g1,g2,g3,g4,g5,g6,g7⟩:=bx8 gb2.out; obtain⟨bb,o,u1,rfl,hq,ul,cs⟩:=hI.el (i:=0) Nat.zero_lt_one; simp only[List.getElem_cons_zero,Nat.zero_mul,Nat.add_zero] at hq cs; obtain⟨B1,n1,d1,B2,n2,d2,rfl,SS⟩:=SI.out w2 k2 _ hq; have HC:=lH (cells8 cs); clear cs hq ul hI; have SH:=lH SS; clear SS; have HX:=lH (fun W (k:Since w2 W)=>gb2.out.since k)))
 have hr0:Since w2 w2.drew:=Since.drew (Since.refl w2)
 refine wp_region_noPanic ?_
 refine Reg.wp_region_G (S:=fun _=>True) (fun j => [].contains j) (by kernel_rfl) trivial ?_
 refine' Reg.tk (i:=0) (oi:=⟨some 16,.move (.tmp 7),29,"show.go:23",#[],none⟩) (v:=_) [1,2,3,4,5,6,7,8,9,10,11,12,13,14] [] (Or.inl ⟨by rfl,Or.inl ?hy2⟩) ?r_2
 case hy2=>(intro w' kk ss; obtain⟨x0,x1,x2,x3,x4,x5,x6,x7⟩:=bx8 (HX.out _ (hr0.trans kk)); obtain⟨y0,y1,y2,y3,y4,y5,y6,y7⟩:=HC.out _ (hr0.trans kk); go_simp; first | done | with_reducible rfl)
 try simp only[Act.put,Reg.l1,Reg.l2,Reg.l3]
 refine' Reg.tk (i:=1) (oi:=⟨some 17,.binOp .neq 29 (.tmp 16) (.const (.int .i64 0)) 29,4,"show.go:23",#[⟨0,.data⟩],none⟩) (v:=_) [2,3,4,5,6,7,8,9,10,11,12,13,14] [] (Or.inl ⟨by rfl,Or.inl ?hy3⟩) ?r_3
 case hy3=>(intro w' kk ss; obtain⟨x0,x1,x2,x3,x4,x5,x6,x7⟩:=bx8 (HX.out _ (hr0.trans kk)); obtain⟨y0,y1,y2,y3,y4,y5,y6,y7⟩:=HC.out _ (hr0.trans kk); go_simp; first | done | with_reducible rfl)
 try simp only[Act.put,Reg.l1,Reg.l2,Reg.l3]
 refine' Reg.tk (i:=2) (oi:=⟨some 18,.move (.tmp 17),4,"show.go:23",#[⟨1,.data⟩],none⟩) (v:=_) [3,4,5,6,7,8,9,10,11,12,13,14] [] (Or.inl ⟨by rfl,Or.inl ?hy4⟩) ?r_4
 case hy4=>(intro w' kk ss; obtain⟨x0,x1,x2,x3,x4,x5,x6,x7⟩:=bx8 (HX.out _ (hr0.trans kk)); obtain⟨y0,y1,y2,y3,y4,y5,y6,y7⟩:=HC.out _ (hr0.trans kk); go_simp; first | done | with_reducible rfl)
 try simp only[Act.put,Reg.l1,Reg.l2,Reg.l3]
 refine' Reg.tk (i:=3) (oi:=⟨some 19,.move (.tmp 5),32,"show.go:23",#[⟨2,.guard⟩],some (2,false)⟩) (v:=_) [4,5,6,7,8,9,10,11,12,13,14] [] (Or.inl ⟨by rfl,Or.inl ?hy5⟩) ?r_5
 case hy5=>(intro w' kk ss; obtain⟨x0,x1,x2,x3,x4,x5,x6,x7⟩:=bx8 (HX.out _ (hr0.trans kk)); obtain⟨y0,y1,y2,y3,y4,y5,y6,y7⟩:=HC.out _ (hr0.trans kk); go_simp; first | done | with_reducible rfl)
 try simp only[Act.put,Reg.l1,Reg.l2,Reg.l3]
 refine' Reg.tk (i:=4) (oi:=⟨some 20,.call { callee:=.builtin .len,args:=#[.tmp 19],argTypes:=#[32] },3,"show.go:23",#[⟨3,.data⟩,⟨2,.guard⟩],some (2,false)⟩) (v:=_) [5,6,7,8,9,10,11,12,13,14] [] (Or.inl ⟨by rfl,Or.inl ?hy6⟩) ?r_6
 case hy6=>(intro w' kk ss; obtain⟨x0,x1,x2,x3,x4,x5,x6,x7⟩:=bx8 (HX.out _ (hr0.trans kk)); obtain⟨y0,y1,y2,y3,y4,y5,y6,y7⟩:=HC.out _ (hr0.trans kk); go_simp; first | done | with_reducible rfl)
 try simp only[Act.put,Reg.l1,Reg.l2,Reg.l3]
 refine' Reg.tk (i:=5) (oi:=⟨some 21,.binOp .neq 3 (.tmp 20) (.const (.int .i64 1)) 3,4,"show.go:23",#[⟨4,.data⟩,⟨2,.guard⟩],some (2,false)⟩) (v:=_) [6,7,8,9,10,11,12,13,14] [] (Or.inl ⟨by rfl,Or.inl ?hy7⟩) ?r_7
 case hy7=>(intro w' kk ss; obtain⟨x0,x1,x2,x3,x4,x5,x6,x7⟩:=bx8 (HX.out _ (hr0.trans kk)); obtain⟨y0,y1,y2,y3,y4,y5,y6,y7⟩:=HC.out _ (hr0.trans kk); go_simp; first | done | with_reducible rfl)
 try simp only[Act.put,Reg.l1,Reg.l2,Reg.l3]
 refine' Reg.tk (i:=6) (oi:=⟨some 22,.pick (.tmp 18) (.const (.bool true)) (.tmp 21),4,"show.go:23",#[⟨2,.data⟩,⟨5,.data⟩],none⟩) (v:=_) [7,8,9,10,11,12,13,14] [] (Or.inl ⟨by rfl,Or.inl ?hy8⟩) ?r_8
 case hy8=>(intro w' kk ss; obtain⟨x0,x1,x2,x3,x4,x5,x6,x7⟩:=bx8 (HX.out _ (hr0.trans kk)); obtain⟨y0,y1,y2,y3,y4,y5,y6,y7⟩:=HC.out _ (hr0.trans kk); go_simp; first | done | with_reducible rfl)
 try simp only[Act.put,Reg.l1,Reg.l2,Reg.l3]
 refine' Reg.tk (i:=7) (oi:=⟨some 23,.move (.tmp 22),4,"show.go:23",#[⟨6,.data⟩,⟨2,.chain⟩],none⟩) (v:=_) [8,9,10,11,12,13,14] [] (Or.inl ⟨by rfl,Or.inl ?hy9⟩) ?r_9
 case hy9=>(intro w' kk ss; obtain⟨x0,x1,x2,x3,x4,x5,x6,x7⟩:=bx8 (HX.out _ (hr0.trans kk)); obtain⟨y0,y1,y2,y3,y4,y5,y6,y7⟩:=HC.out _ (hr0.trans kk); go_simp; first | done | with_reducible rfl)
 try simp only[Act.put,Reg.l1,Reg.l2,Reg.l3]
 refine' Reg.tk (i:=8) (oi:=⟨some 24,.move (.tmp 5),32,"show.go:23",#[⟨7,.guard⟩],some (7,false)⟩) (v:=_) [9,10,12,13,14] [] (Or.inl ⟨by rfl,Or.inl ?hy10⟩) ?r_10
 case hy10=>(intro w' kk ss; obtain⟨x0,x1,x2,x3,x4,x5,x6,x7⟩:=bx8 (HX.out _ (hr0.trans kk)); obtain⟨y0,y1,y2,y3,y4,y5,y6,y7⟩:=HC.out _ (hr0.trans kk); go_simp; first | done | with_reducible rfl)
 try simp only[Act.put,Reg.l1,Reg.l2,Reg.l3]
 refine' Reg.tk (i:=9) (oi:=⟨some 25,.indexAddr 32 (.tmp 24) (.const (.int .i64 0)),0,"show.go:23",#[⟨8,.data⟩,⟨7,.guard⟩],some (7,false)⟩) (v:=_) [10,12,13,14] [] (Or.inl ⟨by rfl,Or.inl ?hy11⟩) ?r_11
 case hy11=>(intro w' kk ss; obtain⟨x0,x1,x2,x3,x4,x5,x6,x7⟩:=bx8 (HX.out _ (hr0.trans kk)); obtain⟨y0,y1,y2,y3,y4,y5,y6,y7⟩:=HC.out _ (hr0.trans kk); go_simp; first | done | with_reducible rfl)
 try simp only[Act.put,Reg.l1,Reg.l2,Reg.l3]
 refine' Reg.tk (i:=10) (oi:=⟨some 26,.load 42 (.tmp 25),42,"show.go:23",#[⟨9,.data⟩,⟨7,.guard⟩],some (7,false)⟩) (v:=_) [12,13,14] [] (Or.inl ⟨by rfl,Or.inl ?hy12⟩) ?r_12
 case hy12=>(intro w' kk ss; obtain⟨x0,x1,x2,x3,x4,x5,x6,x7⟩:=bx8 (HX.out _ (hr0.trans kk)); obtain⟨y0,y1,y2,y3,y4,y5,y6,y7⟩:=HC.out _ (hr0.trans kk); go_simp; first | done | with_reducible rfl)
 try simp only[Act.put,Reg.l1,Reg.l2,Reg.l3]
 refine' Reg.tk (i:=11) (oi:=⟨some 27,.load 42 (.tmp 1),42,"show.go:23",#[⟨7,.guard⟩],some (7,false)⟩) (v:=_) [12,13,14] [] (Or.inl ⟨by rfl,Or.inl ?hy13⟩) ?r_13
 case hy13=>(intro w' kk ss; obtain⟨x0,x1,x2,x3,x4,x5,x6,x7⟩:=bx8 (HX.out _ (hr0.trans kk)); obtain⟨y0,y1,y2,y3,y4,y5,y6,y7⟩:=HC.out _ (hr0.trans kk); go_simp; first | done | with_reducible rfl)
 try simp only[Act.put,Reg.l1,Reg.l2,Reg.l3]
 refine Reg.tk (i:=12) (oi:=⟨some 28,.call ⟨.value (.func 19),#[.tmp 26,.tmp 27],#[42,42]⟩,4,"show.go:23",#[⟨10,.data⟩,⟨11,.data⟩,⟨7,.chain⟩,⟨7,.guard⟩],some (7,false)⟩) (v:=.bool true) [13,14] [] (Or.inl ⟨by rfl,Or.inr ⟨19,#[.agg #[.int .i64 a1,.string a2,.bool a3,.slice B1 n1 d1,.int .i64 a5,.bool a6,.slice B2 n2 d2,.int .i64 a8],.agg #[.int .i64 ki,.string nm,.bool bo,.slice A1 p c1,.int .i64 sz,.bool ou,.slice A2 m c2,.int .i64 ak]],fun w' kk ss=>⟨?_,?_⟩⟩⟩) ?_
 · (try dsimp only at ss); go_simp
 · exact (SH.out w' (hr0.trans kk)).mono (fun e w'' h=>⟨h.1,h.2,trivial⟩)
 try simp only[Act.put,Reg.l1,Reg.l2,Reg.l3]
 refine' Reg.tk (i:=13) (oi:=⟨some 29,.unOp .not 4 (.tmp 28),4,"show.go:23",#[⟨12,.data⟩,⟨7,.guard⟩],some (7,false)⟩) (v:=_) [14] [] (Or.inl ⟨by rfl,Or.inl ?hy14⟩) ?r_14
 case hy14=>(intro w' kk ss; obtain⟨x0,x1,x2,x3,x4,x5,x6,x7⟩:=bx8 (HX.out _ (hr0.trans kk)); obtain⟨y0,y1,y2,y3,y4,y5,y6,y7⟩:=HC.out _ (hr0.trans kk); go_simp; first | done | with_reducible rfl)
 try simp only[Act.put,Reg.l1,Reg.l2,Reg.l3]
 refine' Reg.tk (i:=14) (oi:=⟨some 30,.pick (.tmp 23) (.const (.bool true)) (.tmp 29),4,"show.go:23",#[⟨7,.data⟩,⟨13,.data⟩],none⟩) (v:=_) [] [] (Or.inl ⟨by rfl,Or.inl ?hy15⟩) ?r_15
 case hy15=>(intro w' kk ss; obtain⟨x0,x1,x2,x3,x4,x5,x6,x7⟩:=bx8 (HX.out _ (hr0.trans kk)); obtain⟨y0,y1,y2,y3,y4,y5,y6,y7⟩:=HC.out _ (hr0.trans kk); go_simp; first | done | with_reducible rfl)
 try simp only[Act.put,Reg.l1,Reg.l2,Reg.l3]
 refine Reg.wpG_done (by kernel_rfl) (fun we ke se => ?_) _
 refine NoPanic.normal ?_
 have hr0:=hr0.trans ke
 clear ke
 go_wp2
 go_ret2
 exact⟨rfl,k2.trans hr0⟩
end Go.Proofs.YtjmmcnldfkjebaaGreatDoor.Pge
namespace Go.Proofs.YtjmmcnldfkjebaaGreatDoor.Pge
open Go.RowKit
set_option linter.unusedVariables false
set_option linter.unusedSimpArgs false
open Dig Lx Tk Ps Ti Sh Law07 Law06
open Lex (ErrIn)
set_option maxRecDepth 20000 in
set_option maxHeartbeats 4000000 in
theorem item_other (ki:Int) (nm:ByteArray) (bo:Bool) (sz:Int) (ou:Bool) (ak:Int) (A1 A2:Option Addr) (p m c1 c2:Nat) (T:ByteArray) (a1:Int) (a2:ByteArray) (a3:Bool) (a4:List (Int × Int)) (a5:Int) (a6:Bool) (a7:List Xp) (a8:Int) (p0:Int) (w:World) (hT:∀ W,Since w W→Calls Tryz.prog 17 #[.agg #[.int .i64 ki,.string nm,.bool bo,.slice A1 p c1,.int .i64 sz,.bool ou,.slice A2 m c2,.int .i64 ak]] W fun e w'=>e = .returned (.string T)∧Since W w') (hP:∀ W,Since w W→Calls Tryz.prog 18 #[.string T] W fun x w'=>∃ A c,x = .returned (.tuple #[.slice A 1 c,.int .i64 p0,.int .i64 0])∧Items w' (.slice A 1 c) [⟨a1,a2,a3,a4,a5,a6,a7,a8⟩]∧Since W w')
 (hS:∀ W,Since w W→∀ u1:List Value,QI noG W ⟨a1,a2,a3,a4,a5,a6,a7,a8⟩ u1→∃ B1 n1 d1 B2 n2 d2,u1 = [.int .i64 a1,.string a2,.bool a3,.slice B1 n1 d1,.int .i64 a5,.bool a6,.slice B2 n2 d2,.int .i64 a8]∧∀ W2,Since W W2→Calls Tryz.prog 19 #[.agg #[.int .i64 a1,.string a2,.bool a3,.slice B1 n1 d1,.int .i64 a5,.bool a6,.slice B2 n2 d2,.int .i64 a8],.agg #[.int .i64 ki,.string nm,.bool bo,.slice A1 p c1,.int .i64 sz,.bool ou,.slice A2 m c2,.int .i64 ak]] W2 fun e w'=>e = .returned (.bool false)∧Since W2 w') :
 Calls Tryz.prog 9 #[.agg #[.int .i64 ki,.string nm,.bool bo,.slice A1 p c1,.int .i64 sz,.bool ou,.slice A2 m c2,.int .i64 ak]] w fun e w'=>e = .returned (.tuple #[.string ⟨#[]⟩,.int .i64 2])∧Since w w':=by
 have ka:=lH (sA w (.cells #[.int .i64 ki,.string nm,.bool bo,.slice A1 p c1,.int .i64 sz,.bool ou,.slice A2 m c2,.int .i64 ak] 42))
 have GB:=lH (Bx.fresh w #[.int .i64 ki,.string nm,.bool bo,.slice A1 p c1,.int .i64 sz,.bool ou,.slice A2 m c2,.int .i64 ak] 42)
 obtain⟨g0,g1,g2,g3,g4,g5,g6,g7⟩:=bx8 GB.out
 have TX:=lH hT
 have PT:=lH hP
 clear hT hP
 have SI:=lH hS
 clear hS
 go_enter Tryz.func9,Tryz.ntmps9
 go_wp2_with (first
  | (go_at_call 17; (with_reducible refine (TX.out _ ka.out).mono ?_); rintro e w1 ⟨rfl,h1⟩; have k1:=ka.out.trans h1)
  | (go_at_call 18; (with_reducible refine (PT.out _ k1).mono ?_); rintro e w2 ⟨A,c,rfl,hI,h2⟩; have k2:=k1.trans h2; have gb2:=lH ((GB.out.since h1).since h2); obtain⟨g0,g1,g2,g3,g4,g5,g6,g7⟩:=bx8 gb2.out; obtain⟨bb,o,u1,rfl,hq,ul,cs⟩:=hI.el (i:=0) Nat.zero_lt_one; simp only[List.getElem_cons_zero,Nat.zero_mul,Nat.add_zero] at hq cs; obtain⟨B1,n1,d1,B2,n2,d2,rfl,SS⟩:=SI.out w2 k2 _ hq; have HC:=lH (cells8 cs); clear cs hq ul hI; have SH:=lH SS; clear SS; have HX:=lH (fun W (k:Since w2 W)=>gb2.out.since k)))
 have hr0:Since w2 w2.drew:=Since.drew (Since.refl w2)
 refine wp_region_noPanic ?_
 refine Reg.wp_region_G (S:=fun _=>True) (fun j => [].contains j) (by kernel_rfl) trivial ?_
 refine' Reg.tk (i:=0) (oi:=⟨some 16,.move (.tmp 7),29,"show.go:23",#[],none⟩) (v:=_) [1,2,3,4,5,6,7,8,9,10,11,12,13,14] [] (Or.inl ⟨by rfl,Or.inl ?hy17⟩) ?r_17
 case hy17=>(intro w' kk ss; obtain⟨x0,x1,x2,x3,x4,x5,x6,x7⟩:=bx8 (HX.out _ (hr0.trans kk)); obtain⟨y0,y1,y2,y3,y4,y5,y6,y7⟩:=HC.out _ (hr0.trans kk); go_simp; first | done | with_reducible rfl)
 try simp only[Act.put,Reg.l1,Reg.l2,Reg.l3]
 refine' Reg.tk (i:=1) (oi:=⟨some 17,.binOp .neq 29 (.tmp 16) (.const (.int .i64 0)) 29,4,"show.go:23",#[⟨0,.data⟩],none⟩) (v:=_) [2,3,4,5,6,7,8,9,10,11,12,13,14] [] (Or.inl ⟨by rfl,Or.inl ?hy18⟩) ?r_18
 case hy18=>(intro w' kk ss; obtain⟨x0,x1,x2,x3,x4,x5,x6,x7⟩:=bx8 (HX.out _ (hr0.trans kk)); obtain⟨y0,y1,y2,y3,y4,y5,y6,y7⟩:=HC.out _ (hr0.trans kk); go_simp; first | done | with_reducible rfl)
 try simp only[Act.put,Reg.l1,Reg.l2,Reg.l3]
 refine' Reg.tk (i:=2) (oi:=⟨some 18,.move (.tmp 17),4,"show.go:23",#[⟨1,.data⟩],none⟩) (v:=_) [3,4,5,6,7,8,9,10,11,12,13,14] [] (Or.inl ⟨by rfl,Or.inl ?hy19⟩) ?r_19
 case hy19=>(intro w' kk ss; obtain⟨x0,x1,x2,x3,x4,x5,x6,x7⟩:=bx8 (HX.out _ (hr0.trans kk)); obtain⟨y0,y1,y2,y3,y4,y5,y6,y7⟩:=HC.out _ (hr0.trans kk); go_simp; first | done | with_reducible rfl)
 try simp only[Act.put,Reg.l1,Reg.l2,Reg.l3]
 refine' Reg.tk (i:=3) (oi:=⟨some 19,.move (.tmp 5),32,"show.go:23",#[⟨2,.guard⟩],some (2,false)⟩) (v:=_) [4,5,6,7,8,9,10,11,12,13,14] [] (Or.inl ⟨by rfl,Or.inl ?hy20⟩) ?r_20
 case hy20=>(intro w' kk ss; obtain⟨x0,x1,x2,x3,x4,x5,x6,x7⟩:=bx8 (HX.out _ (hr0.trans kk)); obtain⟨y0,y1,y2,y3,y4,y5,y6,y7⟩:=HC.out _ (hr0.trans kk); go_simp; first | done | with_reducible rfl)
 try simp only[Act.put,Reg.l1,Reg.l2,Reg.l3]
 refine' Reg.tk (i:=4) (oi:=⟨some 20,.call { callee:=.builtin .len,args:=#[.tmp 19],argTypes:=#[32] },3,"show.go:23",#[⟨3,.data⟩,⟨2,.guard⟩],some (2,false)⟩) (v:=_) [5,6,7,8,9,10,11,12,13,14] [] (Or.inl ⟨by rfl,Or.inl ?hy21⟩) ?r_21
 case hy21=>(intro w' kk ss; obtain⟨x0,x1,x2,x3,x4,x5,x6,x7⟩:=bx8 (HX.out _ (hr0.trans kk)); obtain⟨y0,y1,y2,y3,y4,y5,y6,y7⟩:=HC.out _ (hr0.trans kk); go_simp; first | done | with_reducible rfl)
 try simp only[Act.put,Reg.l1,Reg.l2,Reg.l3]
 refine' Reg.tk (i:=5) (oi:=⟨some 21,.binOp .neq 3 (.tmp 20) (.const (.int .i64 1)) 3,4,"show.go:23",#[⟨4,.data⟩,⟨2,.guard⟩],some (2,false)⟩) (v:=_) [6,7,8,9,10,11,12,13,14] [] (Or.inl ⟨by rfl,Or.inl ?hy22⟩) ?r_22
 case hy22=>(intro w' kk ss; obtain⟨x0,x1,x2,x3,x4,x5,x6,x7⟩:=bx8 (HX.out _ (hr0.trans kk)); obtain⟨y0,y1,y2,y3,y4,y5,y6,y7⟩:=HC.out _ (hr0.trans kk); go_simp; first | done | with_reducible rfl)
 try simp only[Act.put,Reg.l1,Reg.l2,Reg.l3]
 refine' Reg.tk (i:=6) (oi:=⟨some 22,.pick (.tmp 18) (.const (.bool true)) (.tmp 21),4,"show.go:23",#[⟨2,.data⟩,⟨5,.data⟩],none⟩) (v:=_) [7,8,9,10,11,12,13,14] [] (Or.inl ⟨by rfl,Or.inl ?hy23⟩) ?r_23
 case hy23=>(intro w' kk ss; obtain⟨x0,x1,x2,x3,x4,x5,x6,x7⟩:=bx8 (HX.out _ (hr0.trans kk)); obtain⟨y0,y1,y2,y3,y4,y5,y6,y7⟩:=HC.out _ (hr0.trans kk); go_simp; first | done | with_reducible rfl)
 try simp only[Act.put,Reg.l1,Reg.l2,Reg.l3]
 refine' Reg.tk (i:=7) (oi:=⟨some 23,.move (.tmp 22),4,"show.go:23",#[⟨6,.data⟩,⟨2,.chain⟩],none⟩) (v:=_) [8,9,10,11,12,13,14] [] (Or.inl ⟨by rfl,Or.inl ?hy24⟩) ?r_24
 case hy24=>(intro w' kk ss; obtain⟨x0,x1,x2,x3,x4,x5,x6,x7⟩:=bx8 (HX.out _ (hr0.trans kk)); obtain⟨y0,y1,y2,y3,y4,y5,y6,y7⟩:=HC.out _ (hr0.trans kk); go_simp; first | done | with_reducible rfl)
 try simp only[Act.put,Reg.l1,Reg.l2,Reg.l3]
 refine' Reg.tk (i:=8) (oi:=⟨some 24,.move (.tmp 5),32,"show.go:23",#[⟨7,.guard⟩],some (7,false)⟩) (v:=_) [9,10,12,13,14] [] (Or.inl ⟨by rfl,Or.inl ?hy25⟩) ?r_25
 case hy25=>(intro w' kk ss; obtain⟨x0,x1,x2,x3,x4,x5,x6,x7⟩:=bx8 (HX.out _ (hr0.trans kk)); obtain⟨y0,y1,y2,y3,y4,y5,y6,y7⟩:=HC.out _ (hr0.trans kk); go_simp; first | done | with_reducible rfl)
 try simp only[Act.put,Reg.l1,Reg.l2,Reg.l3]
 refine' Reg.tk (i:=9) (oi:=⟨some 25,.indexAddr 32 (.tmp 24) (.const (.int .i64 0)),0,"show.go:23",#[⟨8,.data⟩,⟨7,.guard⟩],some (7,false)⟩) (v:=_) [10,12,13,14] [] (Or.inl ⟨by rfl,Or.inl ?hy26⟩) ?r_26
 case hy26=>(intro w' kk ss; obtain⟨x0,x1,x2,x3,x4,x5,x6,x7⟩:=bx8 (HX.out _ (hr0.trans kk)); obtain⟨y0,y1,y2,y3,y4,y5,y6,y7⟩:=HC.out _ (hr0.trans kk); go_simp; first | done | with_reducible rfl)
 try simp only[Act.put,Reg.l1,Reg.l2,Reg.l3]
 refine' Reg.tk (i:=10) (oi:=⟨some 26,.load 42 (.tmp 25),42,"show.go:23",#[⟨9,.data⟩,⟨7,.guard⟩],some (7,false)⟩) (v:=_) [12,13,14] [] (Or.inl ⟨by rfl,Or.inl ?hy27⟩) ?r_27
 case hy27=>(intro w' kk ss; obtain⟨x0,x1,x2,x3,x4,x5,x6,x7⟩:=bx8 (HX.out _ (hr0.trans kk)); obtain⟨y0,y1,y2,y3,y4,y5,y6,y7⟩:=HC.out _ (hr0.trans kk); go_simp; first | done | with_reducible rfl)
 try simp only[Act.put,Reg.l1,Reg.l2,Reg.l3]
 refine' Reg.tk (i:=11) (oi:=⟨some 27,.load 42 (.tmp 1),42,"show.go:23",#[⟨7,.guard⟩],some (7,false)⟩) (v:=_) [12,13,14] [] (Or.inl ⟨by rfl,Or.inl ?hy28⟩) ?r_28
 case hy28=>(intro w' kk ss; obtain⟨x0,x1,x2,x3,x4,x5,x6,x7⟩:=bx8 (HX.out _ (hr0.trans kk)); obtain⟨y0,y1,y2,y3,y4,y5,y6,y7⟩:=HC.out _ (hr0.trans kk); go_simp; first | done | with_reducible rfl)
 try simp only[Act.put,Reg.l1,Reg.l2,Reg.l3]
 refine Reg.tk (i:=12) (oi:=⟨some 28,.call ⟨.value (.func 19),#[.tmp 26,.tmp 27],#[42,42]⟩,4,"show.go:23",#[⟨10,.data⟩,⟨11,.data⟩,⟨7,.chain⟩,⟨7,.guard⟩],some (7,false)⟩) (v:=.bool false) [13,14] [] (Or.inl ⟨by rfl,Or.inr ⟨19,#[.agg #[.int .i64 a1,.string a2,.bool a3,.slice B1 n1 d1,.int .i64 a5,.bool a6,.slice B2 n2 d2,.int .i64 a8],.agg #[.int .i64 ki,.string nm,.bool bo,.slice A1 p c1,.int .i64 sz,.bool ou,.slice A2 m c2,.int .i64 ak]],fun w' kk ss=>⟨?_,?_⟩⟩⟩) ?_
 · (try dsimp only at ss); go_simp
 · exact (SH.out w' (hr0.trans kk)).mono (fun e w'' h=>⟨h.1,h.2,trivial⟩)
 try simp only[Act.put,Reg.l1,Reg.l2,Reg.l3]
 refine' Reg.tk (i:=13) (oi:=⟨some 29,.unOp .not 4 (.tmp 28),4,"show.go:23",#[⟨12,.data⟩,⟨7,.guard⟩],some (7,false)⟩) (v:=_) [14] [] (Or.inl ⟨by rfl,Or.inl ?hy29⟩) ?r_29
 case hy29=>(intro w' kk ss; obtain⟨x0,x1,x2,x3,x4,x5,x6,x7⟩:=bx8 (HX.out _ (hr0.trans kk)); obtain⟨y0,y1,y2,y3,y4,y5,y6,y7⟩:=HC.out _ (hr0.trans kk); go_simp; first | done | with_reducible rfl)
 try simp only[Act.put,Reg.l1,Reg.l2,Reg.l3]
 refine' Reg.tk (i:=14) (oi:=⟨some 30,.pick (.tmp 23) (.const (.bool true)) (.tmp 29),4,"show.go:23",#[⟨7,.data⟩,⟨13,.data⟩],none⟩) (v:=_) [] [] (Or.inl ⟨by rfl,Or.inl ?hy30⟩) ?r_30
 case hy30=>(intro w' kk ss; obtain⟨x0,x1,x2,x3,x4,x5,x6,x7⟩:=bx8 (HX.out _ (hr0.trans kk)); obtain⟨y0,y1,y2,y3,y4,y5,y6,y7⟩:=HC.out _ (hr0.trans kk); go_simp; first | done | with_reducible rfl)
 try simp only[Act.put,Reg.l1,Reg.l2,Reg.l3]
 refine Reg.wpG_done (by kernel_rfl) (fun we ke se => ?_) _
 refine NoPanic.normal ?_
 have hr0:=hr0.trans ke
 clear ke
 go_wp2
 go_ret2
 exact⟨rfl,k2.trans hr0⟩
end Go.Proofs.YtjmmcnldfkjebaaGreatDoor.Pge
namespace Go.Proofs.YtjmmcnldfkjebaaGreatDoor.Pge
open Go.RowKit
set_option linter.unusedVariables false
set_option linter.unusedSimpArgs false
open Dig Lx Tk Ps Ti Sh Law07 Law06
open Lex (ErrIn)
theorem item_landed (x:Iq) (u:Array Value) (w:World) (ht:TabIn w) (he:ErrIn w) (ha:ArgI w x u) (hb:BoI x):Calls Tryz.prog 9 #[.agg u] w (RetS x w):=by
 have hT:∀ W,Since w W→Calls Tryz.prog 17 #[.agg u] W fun e w'=>e = .returned (.string (txtOf x))∧Since W w':=fun W k=>itemText_any x u W (ht.since k) (argI_since ha k) hb
 have hno:(∀ y,textD (txtOf x)=([y],0,0)→itq y=x→False)→(Calls Tryz.prog 9 #[.agg u] w fun e w'=>e = .returned (.tuple #[.string ⟨#[]⟩,.int .i64 2])∧Since w w')→Calls Tryz.prog 9 #[.agg u] w (RetS x w):=by
  intro h1 h2
  refine h2.mono ?_
  rintro e w' ⟨rfl,hs⟩
  exact⟨⟨#[]⟩,2,rfl,txt_no h1,hs⟩
 have ha2:=ha
 obtain⟨A1,c1,A2,c2,rfl,k1,k2⟩:=ha2
 obtain⟨⟨l,p0,er⟩,hr⟩:∃ r,textD (txtOf x)=r:=⟨_,rfl⟩
 have hP:=fun W (k:Since w W)=>text_at text_says (txtOf x) (Nat.le_trans (txtOf_le x) (by decide)) hr rfl W (he.since k)
 by_cases h0:er=0
 · subst h0
   by_cases h1:l.length=1
   · obtain⟨y,rfl⟩:=List.length_eq_one_iff.1 h1
     by_cases hx:itq y=x
     · refine (item_one _ _ _ _ _ _ _ _ _ _ _ _ (txtOf x) y.kind y.name y.bool y.dom y.size y.out y.vals y.ask p0 w hT hP ?_).mono ?_
       · intro W kW u1 hq
         have SM:=fun W2 k=>same_item y x u1 _ hq (argI_since ha kW) hb W2 k
         obtain⟨D,V,rfl,g1,-,g2,-⟩:=hq
         obtain⟨B1,b1,rfl⟩:=g1.form
         obtain⟨B2,b2,rfl⟩:=g2.form
         exact⟨_,_,_,_,_,_,rfl,fun W2 k=>(SM W2 k).mono fun e w' r=>r.yes hx⟩
       · rintro e w' ⟨rfl,hs⟩
         exact⟨txtOf x,0,rfl,txt_yes hr hx,hs⟩
     · refine hno ?_ (item_other _ _ _ _ _ _ _ _ _ _ _ _ (txtOf x) y.kind y.name y.bool y.dom y.size y.out y.vals y.ask p0 w hT hP ?_)
       · intro z hz hzx
         rw[hr] at hz
         injection hz with hz _
         injection hz with hz _
         exact hx (hz ▸ hzx)
       · intro W kW u1 hq
         have SM:=fun W2 k=>same_item y x u1 _ hq (argI_since ha kW) hb W2 k
         obtain⟨D,V,rfl,g1,-,g2,-⟩:=hq
         obtain⟨B1,b1,rfl⟩:=g1.form
         obtain⟨B2,b2,rfl⟩:=g2.form
         exact⟨_,_,_,_,_,_,rfl,fun W2 k=>(SM W2 k).mono fun e w' r=>r.no hx⟩
   · refine hno ?_ (item_many _ _ _ _ _ _ _ _ _ _ _ _ (txtOf x) l l.length p0 w h1 hT hP)
     intro z hz _
     rw[hr] at hz
     injection hz with hz _
     exact h1 (by rw[hz]; rfl)
 · refine hno ?_ (item_bad _ _ _ _ _ _ _ _ _ _ _ _ (txtOf x) l l.length p0 er w h0 hT hP)
   intro z hz _
   rw[hr] at hz
   injection hz with _ hz
   injection hz with _ hz
   exact h0 hz
theorem valid_iff {x:Iq} {T:ByteArray} {e:Int} (h:ItemS x T e):(decide (e=0)=true↔Valid x)∧(e=0∨e=2):=by
 rcases h with ⟨h1,-,rfl⟩ | ⟨y,h1,h2,-,rfl⟩
 · exact⟨⟨fun h=>(by cases h),fun h=>absurd h h1⟩,.inr rfl⟩
 · exact⟨⟨fun _=>⟨y,h1,h2⟩,fun _=>rfl⟩,.inl rfl⟩
set_option maxRecDepth 20000 in
set_option maxHeartbeats 4000000 in
theorem right_gen (ki:Int) (nm:ByteArray) (bo:Bool) (sz:Int) (ou:Bool) (ak:Int) (A1 A2:Option Addr) (p m c1 c2:Nat) (Q:ByteArray→Int→Prop) (w:World) (hQ:∀ T e,Q T e→e=0∨e=2) (hT:∀ W,Since w W→Calls Tryz.prog 9 #[.agg #[.int .i64 ki,.string nm,.bool bo,.slice A1 p c1,.int .i64 sz,.bool ou,.slice A2 m c2,.int .i64 ak]] W fun e w'=>∃ (T:ByteArray) (er:Int),e = .returned (.tuple #[.string T,.int .i64 er])∧Q T er∧Since W w') :
 Calls Tryz.prog 10 #[.agg #[.int .i64 ki,.string nm,.bool bo,.slice A1 p c1,.int .i64 sz,.bool ou,.slice A2 m c2,.int .i64 ak]] w fun e w'=>∃ (T:ByteArray) (er:Int),e = .returned (.bool (decide (er=0)))∧Q T er∧Since w w':=by
 have ka:=lH (sA w (.cells #[.int .i64 ki,.string nm,.bool bo,.slice A1 p c1,.int .i64 sz,.bool ou,.slice A2 m c2,.int .i64 ak] 42))
 have GB:=lH (Bx.fresh w #[.int .i64 ki,.string nm,.bool bo,.slice A1 p c1,.int .i64 sz,.bool ou,.slice A2 m c2,.int .i64 ak] 42)
 obtain⟨g0,g1,g2,g3,g4,g5,g6,g7⟩:=bx8 GB.out
 have TX:=lH hT
 have QQ:=lH hQ
 clear hT hQ
 go_enter Tryz.func10,Tryz.ntmps10
 go_wp2_with (go_at_call 9; (with_reducible refine (TX.out _ ka.out).mono ?_); rintro e w1 ⟨T,er,rfl,hq,h1⟩; rcases QQ.out T er hq with rfl | rfl)
 · go_ret
   exact⟨T,0,rfl,hq,ka.out.trans h1⟩
 · go_ret
   exact⟨T,2,rfl,hq,ka.out.trans h1⟩
theorem right_landed (x:Iq) (u:Array Value) (w:World) (ht:TabIn w) (he:ErrIn w) (ha:ArgI w x u) (hb:BoI x):Calls Tryz.prog 10 #[.agg u] w (RetV x w):=by
 have ha2:=ha
 obtain⟨A1,c1,A2,c2,rfl,k1,k2⟩:=ha2
 refine (right_gen x.kind x.name x.bool x.size x.out x.ask A1 A2 _ _ c1 c2 (ItemS x) w (fun T e h=>(valid_iff h).2) (fun W k=>item_landed x _ W (ht.since k) (he.since k) (argI_since ha k) hb)).mono ?_
 rintro e w' ⟨T,er,rfl,hq,hs⟩
 exact⟨_,rfl,(valid_iff hq).1,hs⟩
end Go.Proofs.YtjmmcnldfkjebaaGreatDoor.Pge
namespace Go.Proofs.YtjmmcnldfkjebaaGreatDoor.Pge
open Go.RowKit
set_option linter.unusedVariables false
set_option linter.unusedSimpArgs false
open Dig Lx Tk Ps Ti Sh Law07
open Lex (ErrIn)
theorem argI_of {w:World} {x:Iq} {u:List Value} (h:QIq noG w x u):∃ A1 c1 A2 c2,u = [.int .i64 x.kind,.string x.name,.bool x.bool,.slice A1 x.dom.length c1,.int .i64 x.size,.bool x.out,.slice A2 x.vals.length c2,.int .i64 x.ask]∧ArgI w x u.toArray:=by
 obtain⟨d,v,rfl,h2,-,h4,-⟩:=h
 obtain⟨A1,c1,rfl⟩:=h2.form
 obtain⟨A2,c2,rfl⟩:=h4.form
 exact⟨A1,c1,A2,c2,rfl,A1,c1,A2,c2,rfl,h2,h4⟩
theorem items_snoc (ys:List It) (y:It):itemsB (ys ++ [y])=itemsB ys++(itemB y++⟨#[10]⟩):=by
 rw[items_append,items_cons]
 congr 1
 apply L_inj
 rw[L_append,L_append]
 simp[show L (itemsB []) = [] from rfl]
theorem fit_items {ys:List It} (h:∀ y ∈ ys,WfS y):Fit (textP ys):=fit_text fun y hy=>(h y hy).1
theorem item_yes_at {x:Iq} {u:Array Value} {y:It} (hx:x=itq y) (hy:WfS y) {w:World} (h:Calls Tryz.prog 9 #[.agg u] w (RetS x w)):Calls Tryz.prog 9 #[.agg u] w fun e w'=>e = .returned (.tuple #[.string (itemB y),.int .i64 0])∧Since w w':=by
 refine h.mono ?_
 rintro e w' ⟨T,er,rfl,hS,hs⟩
 obtain⟨rfl,rfl⟩:=item_yes hS hx hy
 exact⟨rfl,hs⟩
theorem item_no_at {x:Iq} {u:Array Value} (hx:¬ Valid x) {w:World} (h:Calls Tryz.prog 9 #[.agg u] w (RetS x w)):Calls Tryz.prog 9 #[.agg u] w fun e w'=>e = .returned (.tuple #[.string nos,.int .i64 2])∧Since w w':=by
 refine h.mono ?_
 rintro e w' ⟨T,er,rfl,hS,hs⟩
 obtain⟨rfl,rfl⟩:=item_no hS hx
 exact⟨rfl,hs⟩
theorem split_at {s:ByteArray} (hs:s.size≤100000) {us:List Tok} {p:Nat} {er:Int} (hr:splitD (L s)=(us,p,er)) {w:World} (he:ErrIn w):Calls Tryz.prog 13 #[.string s] w fun e w'=>∃ A m c,e = .returned (.tuple #[.slice A m c,.int .i64 (p:Int),.int .i64 er])∧Since w w':=by
 refine (Lex.split_any s w he hs).mono ?_
 rw[hr]
 rintro e w' ⟨A,c,h1,-,h3⟩
 exact⟨A,us.length,c,h1,h3⟩
set_option maxRecDepth 20000 in
set_option maxHeartbeats 4000000 in
theorem text_show (l:List Iq) (v:Value) (w:World) (ht:TabIn w) (he:ErrIn w) (h:ItemsQ w v l) (hl:l.length≤10000) (hb:∀ x ∈ l,BoI x):Calls Tryz.prog 6 #[v] w (RetTx l w):=by
 have H:=lH h
 have HT:=lH ht
 have HE:=lH he
 have HB:=lH hb
 obtain⟨A0,c0,rfl⟩:=h.form
 obtain⟨n,hnn⟩:∃ n,n=l.length:=⟨_,rfl⟩
 rw[← hnn] at H hl ⊢
 have HN:=lH hnn
 clear h ht he hb hnn
 by_cases hbig:512<n
 · have z1:((512:Int)<(n:Int)):=by omega
   go_enter Tryz.func6,Tryz.ntmps6
   go_wp2
   go_ret2
   exact⟨⟨#[]⟩,3,rfl,.inl ⟨by rw[← HN.out]; exact hbig,rfl,rfl⟩,Since.refl _⟩
 · have z1:¬ ((512:Int)<(n:Int)):=by omega
   have P0:=Pg.fresh w
   have S0:=sA w (.cells #[.pointer none,.slice none 0 0,.bool false] 51)
   obtain⟨B0,hB0⟩:∃ B0,B0=w.heap.size:=⟨_,rfl⟩
   have HP0:=lH P0
   have HS0:=lH S0
   clear P0 S0
   go_enter Tryz.func6,Tryz.ntmps6
   go_wp2
   go_loopw [18] (fun i wr=>∃ k:Nat,i = .int .i64 (k:Int)∧k≤n∧Hid (∃ ys:List It,l.take k=ys.map itq∧(∀ y ∈ ys,WfS y)∧Pg w.heap.size w.heap.size (put (some ⟨#[]⟩) (itemsB ys)) wr)∧Hid (Since w wr)∧w.heap.size<wr.heap.size) (fun i _=>n - (intOf i).toNat)
   case atStart=>exact⟨0,rfl,Nat.zero_le _,⟨[],by rw[List.take_zero]; rfl,fun y hy=>(by cases hy),(put_nos HP0.out.okp (s:=itemsB []) rfl).symm ▸ HP0.out⟩,HS0.out,HP0.out.lt⟩
   case round =>
    obtain⟨k,rfl,hk,HY,HSk,hltk⟩:=hrel
    obtain⟨ys,hys,hyw,hyp⟩:=HY.out
    by_cases hkn:k<n
    · have hkl:k<l.length:=by have:=HN.out; omega
      obtain⟨bb,o,u,rfl,hq,hul,hcs⟩:=H.out.el hkl
      obtain⟨A1,c1,A2,c2,rfl,ha⟩:=argI_of hq
      have hbx:=HB.out l[k] (List.getElem_mem hkl)
      have hst:l.take (k+1)=l.take k ++ [l[k]]:=List.take_succ_eq_append_getElem hkl
      have hmem:l[k] ∈ l:=List.getElem_mem hkl
      obtain⟨x,hx⟩:∃ x,x=l[k]:=⟨_,rfl⟩
      rw[← hx] at hst ha hbx hcs hmem
      have HIT:=lH (fun W (k:Since w W)=>item_landed x _ W (HT.out.since k) (HE.out.since k) (argI_since ha k) hbx)
      have up:=cells8 hcs wr HSk.out
      obtain⟨g0,g1,g2,g3,g4,g5,g6,g7⟩:=up
      obtain⟨ki,nm,bo,dm,sz,ou,vs,ak⟩:=x
      simp only at g0 g1 g2 g3 g4 g5 g6 g7 HIT
      obtain⟨dn,hdn⟩:∃ dn,dn=dm.length:=⟨_,rfl⟩
      obtain⟨vn,hvn⟩:∃ vn,vn=vs.length:=⟨_,rfl⟩
      rw[← hdn] at g3 HIT
      rw[← hvn] at g6 HIT
      have HST:=lH hst
      have HMM:=lH hmem
      have HYS:=lH hys
      have HYW:=lH hyw
      have HYP:=lH hyp
      have ka:=lH (sA wr (.cells #[.int .i64 ki,.string nm,.bool bo,.slice A1 dn c1,.int .i64 sz,.bool ou,.slice A2 vn c2,.int .i64 ak] 42))
      have sa:=lH (HSk.out.trans ka.out)
      clear hst hx hq hul hcs ha hbx hmem hys hyw hyp hdn hvn HY
      by_cases hv:Valid ⟨ki,nm,bo,dm,sz,ou,vs,ak⟩
      · obtain⟨y,hy,hw⟩:=hv
        have HI:=lH (fun W (k:Since w W)=>item_yes_at hy hw (HIT.out W k))
        have HY:=lH hy
        have HW:=lH hw
        obtain⟨T,hT⟩:∃ T,T=itemB y:=⟨_,rfl⟩
        rw[← hT] at HI
        have HTT:=lH hT
        obtain⟨sk,hsk⟩:∃ sk,sk=put (some ⟨#[]⟩) (itemsB ys):=⟨_,rfl⟩
        rw[← hsk] at HYP
        have HSK:=lH hsk
        clear hT hsk hy hw HIT
        go_wp2_with (first
         | (go_at_call 9; (with_reducible refine (HI.out _ sa.out).mono ?_); rintro e w1 ⟨rfl,h1⟩; have s1:=sa.out.trans h1; have p1:=(HYP.out.since ka.out).since h1)
         | (go_at_call 11; (with_reducible refine (write2 _ _ p1 s1 (by simp)).mono ?_); rintro e w2 ⟨rfl,p2,s2,q2⟩))
        go_roundw
        case rel =>
         refine⟨k+1,by go_num,by omega,⟨ys ++ [y],?_,?_,?_⟩,s2,p2.lt⟩
         · rw[HST.out,HYS.out,HY.out,List.map_append]; rfl
         · intro z hz
           rcases List.mem_append.1 hz with hz | hz
           · exact HYW.out z hz
           · rw[List.mem_singleton.1 hz]; exact HW.out
         · rw[items_snoc,← put_put,← HSK.out,← HTT.out]
           exact p2
        case measure=>simp[intOf]; omega
      · have HI:=lH (fun W (k:Since w W)=>item_no_at hv (HIT.out W k))
        have HV:=lH hv
        clear hv HIT
        go_wp2_with (go_at_call 9; (with_reducible refine (HI.out _ sa.out).mono ?_); rintro e w1 ⟨rfl,h1⟩; have s1:=sa.out.trans h1)
        go_ret2
        exact⟨_,2,rfl,.inr (.inl ⟨by rw[← HN.out]; omega,fun h=>HV.out (h _ HMM.out),rfl,rfl⟩),s1⟩
    · obtain rfl:k=n:=by omega
      have e:l.take k=l:=List.take_of_length_le (by have:=HN.out; omega)
      rw[e] at hys
      have h5:ys.length≤512:=by
       have:=congrArg List.length hys
       rw[List.length_map] at this
       have:=HN.out; omega
      have HYS:=lH hys
      have HYW:=lH hyw
      have H5:=lH h5
      clear e hys hyw h5 HY
      have e0:(⟨#[]⟩:ByteArray).size=0:=rfl
      by_cases h8:(itemsB ys).size≤8192
      · rw[put_yes (by rw[e0]; omega),nos_add] at hyp
        have f1:=full_cell hyp
        simp only[Option.isNone_some] at f1
        have SA:=lH (string_any _ _ _ _ hyp HSk.out.size)
        have HYP:=lH hyp
        clear hyp
        have h4:(textP ys).length≤4096∨4096<(textP ys).length:=by omega
        rcases h4 with h4 | h4
        · obtain⟨us,hus⟩:=split_small (L_items ys) (fit_items HYW.out) h8 h4
          have SP:=lH (fun W (k:Since w W)=>split_at (Nat.le_trans h8 (by decide)) hus (HE.out.since k))
          obtain⟨T,hT⟩:∃ T,T=itemsB ys:=⟨_,rfl⟩
          rw[← hT] at SA SP
          have HTT:=lH hT
          have H8:=lH h8
          have H4:=lH h4
          clear h8 h4 hus hT
          go_wp2_with (first
           | (go_at_call 12; (with_reducible refine SA.out.mono ?_); rintro e w2 ⟨rfl,h2⟩; have s2:Since w w2:=Below.trans HSk.out h2)
           | (go_at_call 13; (with_reducible refine (SP.out _ s2).mono ?_); rintro e w3 ⟨A3,m3,c3,rfl,h3⟩; have s3:=s2.trans h3))
          go_ret2
          exact⟨T,0,rfl,.inr (.inr ⟨ys,HYS.out,H5.out,HYW.out,.inr ⟨H8.out,H4.out,HTT.out,rfl⟩⟩),s3⟩
        · obtain⟨p0,hus⟩:=split_big (L_items ys) (fit_items HYW.out) h8 h4
          have SP:=lH (fun W (k:Since w W)=>split_at (Nat.le_trans h8 (by decide)) hus (HE.out.since k))
          obtain⟨T,hT⟩:∃ T,T=itemsB ys:=⟨_,rfl⟩
          rw[← hT] at SA SP
          have H4:=lH h4
          clear h8 h4 hus hT
          go_wp2_with (first
           | (go_at_call 12; (with_reducible refine SA.out.mono ?_); rintro e w2 ⟨rfl,h2⟩; have s2:Since w w2:=Below.trans HSk.out h2)
           | (go_at_call 13; (with_reducible refine (SP.out _ s2).mono ?_); rintro e w3 ⟨A3,m3,c3,rfl,h3⟩; have s3:=s2.trans h3))
          go_ret2
          exact⟨⟨#[]⟩,3,rfl,.inr (.inr ⟨ys,HYS.out,H5.out,HYW.out,.inl ⟨.inr H4.out,rfl,rfl⟩⟩),s3⟩
      · rw[put_no (by rw[e0]; omega)] at hyp
        have f1:=full_cell hyp
        simp only[Option.isNone_none] at f1
        have H8:=lH h8
        clear hyp h8
        go_wp2
        go_ret2
        exact⟨⟨#[]⟩,3,rfl,.inr (.inr ⟨ys,HYS.out,H5.out,HYW.out,.inl ⟨.inl (Nat.lt_of_not_le H8.out),rfl,rfl⟩⟩),HSk.out⟩
theorem show_says:ShowSays (fun w=>ErrIn w∧TabIn w):=
 ⟨fun w w' h k=>⟨h.1.since k,h.2.since k⟩,fun x u w h ha hb=>item_landed x u w h.2 h.1 ha hb,fun x u w h ha hb=>right_landed x u w h.2 h.1 ha hb,fun l v w h hi hl hb=>text_show l v w h.2 h.1 hi hl hb⟩
end Go.Proofs.YtjmmcnldfkjebaaGreatDoor.Pge
