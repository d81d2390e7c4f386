/- An item while the landed parser reads it: the reader, the item's block, the block for what comes back. What th -/
import Derived.Test.YtjmmcnldfkjebaaGreatDoorUb
set_option maxHeartbeats 4000000
set_option maxRecDepth 20000
namespace Go.Proofs.YtjmmcnldfkjebaaGreatDoor.Prs
open Go.RowKit
set_option linter.unusedVariables false
set_option linter.unusedSimpArgs false
open Dig Lx Tk Ps Ti
theorem Only.put {b g i:Nat} {w W:World} (h:Only b w W) (hg:w.heap.size≤g) (u:Value):Only b w (W.setCell ⟨g,i,none⟩ u):=h.new (Only.set (b:=g) (Only.refl _ _) u) hg
theorem keepR {g N:Nat} {w w':World} {d:Value} {dm:List (Int × Int)} (h:Sl 2 QR w d dm) (k:Only g w w') (hg:g<N) (hf:FarO (fun b=>b<N) d):Sl 2 QR w' d dm:=
 h.kept k (fun b hb=>by injection hb with hb; subst hb; exact hg) (fun x u h=>h) hf
theorem keepX {g N:Nat} {w w':World} {v:Value} {vs:List Xp} (h:Sl 4 (QX (fun b=>b<N)) w v vs) (k:Only g w w') (hg:g<N) (hf:FarO (fun b=>b<N) v):Sl 4 (QX (fun b=>b<N)) w' v vs:=
 h.kept k (fun b hb=>by injection hb with hb; subst hb; exact hg) (fun x u h=>QX.grow k (fun b hb=>by injection hb with hb; subst hb; exact hg) (fun b hb => .inl hb) h) hf
abbrev Z8:Array Value:=#[.int .i64 0,.string ⟨#[]⟩,.bool false,.slice none 0 0,.int .i64 0,.bool false,.slice none 0 0,.int .i64 0]
abbrev TI:TypeId:=42
def Itm (n:Int) (w:World) (b rb xb N:Nat) (us:Ts) (ki:Int) (nm:ByteArray) (bo:Bool) (d:Value) (dm:List (Int × Int)) (sz:Int) (ou:Bool) (v:Value) (vs:List Xp) (ak:Int) (W:World):Prop:=
 (b<w.heap.size∧w.heap.size≤rb∧rb<N∧w.heap.size≤xb∧xb<N∧rb≠xb∧N≤W.heap.size)∧Rd b n us W∧Only b w W∧Bx W rb Z8 TI ∧
 Bx W xb #[.int .i64 ki,.string nm,.bool bo,d,.int .i64 sz,.bool ou,v,.int .i64 ak] TI∧(Sl 2 QR W d dm∧FarO (fun b=>b<N) d)∧(Sl 4 (QX (fun b=>b<N)) W v vs∧FarO (fun b=>b<N) v)
section
variable {n:Int} {w:World} {b rb xb N:Nat} {us:Ts} {ki:Int} {nm:ByteArray} {bo:Bool} {d:Value} {dm:List (Int × Int)} {sz:Int} {ou:Bool} {v:Value} {vs:List Xp} {ak:Int} {W W':World}
theorem Itm.rd (h:Itm n w b rb xb N us ki nm bo d dm sz ou v vs ak W):Rd b n us W:=h.2.1
theorem Itm.only (h:Itm n w b rb xb N us ki nm bo d dm sz ou v vs ak W):Only b w W:=h.2.2.1
theorem Itm.bx (h:Itm n w b rb xb N us ki nm bo d dm sz ou v vs ak W):Bx W xb #[.int .i64 ki,.string nm,.bool bo,d,.int .i64 sz,.bool ou,v,.int .i64 ak] TI:=h.2.2.2.2.1
theorem Itm.br (h:Itm n w b rb xb N us ki nm bo d dm sz ou v vs ak W):Bx W rb Z8 TI:=h.2.2.2.1
theorem Itm.big (h:Itm n w b rb xb N us ki nm bo d dm sz ou v vs ak W):N≤W.heap.size:=h.1.2.2.2.2.2.2
theorem Itm.call {us':Ts} (h:Itm n w b rb xb N us ki nm bo d dm sz ou v vs ak W) (hr:Rd b n us' W') (k:Only b W W'):Itm n w b rb xb N us' ki nm bo d dm sz ou v vs ak W':=by
 obtain⟨⟨h1,h2,h3,h4,h5,h6,h7⟩,h8,h9,h10,h11,⟨h12,h13⟩,h14,h15⟩:=h
 exact⟨⟨h1,h2,h3,h4,h5,h6,Nat.le_trans h7 k.size⟩,hr,h9.trans k,k.bx h10 (by omega),k.bx h11 (by omega),⟨keepR h12 k (by omega) h13,h13⟩,keepX h14 k (by omega) h15,h15⟩
theorem Itm.raw {cs:Array Value} (i:Nat) (u:Value) (h:Itm n w b rb xb N us ki nm bo d dm sz ou v vs ak W) (hc : #[.int .i64 ki,.string nm,.bool bo,d,.int .i64 sz,.bool ou,v,.int .i64 ak].setIfInBounds i u=cs) :
 (b<w.heap.size∧w.heap.size≤rb∧rb<N∧w.heap.size≤xb∧xb<N∧rb≠xb∧N≤(W.setCell ⟨xb,i,none⟩ u).heap.size)∧Rd b n us (W.setCell ⟨xb,i,none⟩ u)∧Only b w (W.setCell ⟨xb,i,none⟩ u)∧Bx (W.setCell ⟨xb,i,none⟩ u) rb Z8 TI ∧
 Bx (W.setCell ⟨xb,i,none⟩ u) xb cs TI∧(∀ {d dm},Sl 2 QR W d dm→FarO (fun b=>b<N) d→Sl 2 QR (W.setCell ⟨xb,i,none⟩ u) d dm∧FarO (fun b=>b<N) d) ∧
 (∀ {v vs},Sl 4 (QX (fun b=>b<N)) W v vs→FarO (fun b=>b<N) v→Sl 4 (QX (fun b=>b<N)) (W.setCell ⟨xb,i,none⟩ u) v vs∧FarO (fun b=>b<N) v):=by
 obtain⟨⟨h1,h2,h3,h4,h5,h6,h7⟩,h8,h9,h10,h11,⟨h12,h13⟩,h14,h15⟩:=h
 have k:Only xb W (W.setCell ⟨xb,i,none⟩ u):=(Only.refl _ _).set u
 refine⟨⟨h1,h2,h3,h4,h5,h6,Nat.le_trans h7 k.size⟩,h8.other u (by omega),h9.put h4 u,k.bx h10 h6,?_,fun g f=>⟨keepR g k h5 f,f⟩,fun g f=>⟨keepX g k h5 f,f⟩⟩
 have:=heap_setCell_same W xb i _ _ u h11
 rw[hc] at this
 exact this
theorem Itm.kind (x:Int) (h:Itm n w b rb xb N us ki nm bo d dm sz ou v vs ak W):Itm n w b rb xb N us x nm bo d dm sz ou v vs ak (W.setCell ⟨xb,0,none⟩ (.int .i64 x)):=by
 obtain⟨g1,g2,g3,g4,g5,g6,g7⟩:=h.raw 0 (.int .i64 x) rfl
 exact⟨g1,g2,g3,g4,g5,g6 h.2.2.2.2.2.1.1 h.2.2.2.2.2.1.2,g7 h.2.2.2.2.2.2.1 h.2.2.2.2.2.2.2⟩
theorem Itm.name (x:ByteArray) (h:Itm n w b rb xb N us ki nm bo d dm sz ou v vs ak W):Itm n w b rb xb N us ki x bo d dm sz ou v vs ak (W.setCell ⟨xb,1,none⟩ (.string x)):=by
 obtain⟨g1,g2,g3,g4,g5,g6,g7⟩:=h.raw 1 (.string x) rfl
 exact⟨g1,g2,g3,g4,g5,g6 h.2.2.2.2.2.1.1 h.2.2.2.2.2.1.2,g7 h.2.2.2.2.2.2.1 h.2.2.2.2.2.2.2⟩
theorem Itm.bool (x:Bool) (h:Itm n w b rb xb N us ki nm bo d dm sz ou v vs ak W):Itm n w b rb xb N us ki nm x d dm sz ou v vs ak (W.setCell ⟨xb,2,none⟩ (.bool x)):=by
 obtain⟨g1,g2,g3,g4,g5,g6,g7⟩:=h.raw 2 (.bool x) rfl
 exact⟨g1,g2,g3,g4,g5,g6 h.2.2.2.2.2.1.1 h.2.2.2.2.2.1.2,g7 h.2.2.2.2.2.2.1 h.2.2.2.2.2.2.2⟩
theorem Itm.out (x:Bool) (h:Itm n w b rb xb N us ki nm bo d dm sz ou v vs ak W):Itm n w b rb xb N us ki nm bo d dm sz x v vs ak (W.setCell ⟨xb,5,none⟩ (.bool x)):=by
 obtain⟨g1,g2,g3,g4,g5,g6,g7⟩:=h.raw 5 (.bool x) rfl
 exact⟨g1,g2,g3,g4,g5,g6 h.2.2.2.2.2.1.1 h.2.2.2.2.2.1.2,g7 h.2.2.2.2.2.2.1 h.2.2.2.2.2.2.2⟩
theorem Itm.ask (x:Int) (h:Itm n w b rb xb N us ki nm bo d dm sz ou v vs ak W):Itm n w b rb xb N us ki nm bo d dm sz ou v vs x (W.setCell ⟨xb,7,none⟩ (.int .i64 x)):=by
 obtain⟨g1,g2,g3,g4,g5,g6,g7⟩:=h.raw 7 (.int .i64 x) rfl
 exact⟨g1,g2,g3,g4,g5,g6 h.2.2.2.2.2.1.1 h.2.2.2.2.2.1.2,g7 h.2.2.2.2.2.2.1 h.2.2.2.2.2.2.2⟩
theorem Itm.dom (d':Value) (dm':List (Int × Int)) (h:Itm n w b rb xb N us ki nm bo d dm sz ou v vs ak W) (h1:Sl 2 QR W d' dm') (h2:FarO (fun b=>b<N) d'):Itm n w b rb xb N us ki nm bo d' dm' sz ou v vs ak (W.setCell ⟨xb,3,none⟩ d'):=by
 obtain⟨g1,g2,g3,g4,g5,g6,g7⟩:=h.raw 3 d' rfl
 exact⟨g1,g2,g3,g4,g5,g6 h1 h2,g7 h.2.2.2.2.2.2.1 h.2.2.2.2.2.2.2⟩
theorem Itm.vals (v':Value) (vs':List Xp) (h:Itm n w b rb xb N us ki nm bo d dm sz ou v vs ak W) (h1:Sl 4 (QX (fun b=>b<N)) W v' vs') (h2:FarO (fun b=>b<N) v'):Itm n w b rb xb N us ki nm bo d dm sz ou v' vs' ak (W.setCell ⟨xb,6,none⟩ v'):=by
 obtain⟨g1,g2,g3,g4,g5,g6,g7⟩:=h.raw 6 v' rfl
 exact⟨g1,g2,g3,g4,g5,g6 h.2.2.2.2.2.1.1 h.2.2.2.2.2.1.2,g7 h1 h2⟩
def IV (w w':World) (x:It) (u:Value):Prop:=∃ A1 c1 A2 c2,u = .agg #[.int .i64 x.kind,.string x.name,.bool x.bool,.slice A1 x.dom.length c1,.int .i64 x.size,.bool x.out,.slice A2 x.vals.length c2,.int .i64 x.ask] ∧
 Sl 2 QR w' (.slice A1 x.dom.length c1) x.dom∧FarO (Old w) (.slice A1 x.dom.length c1)∧Sl 4 (QX (Old w)) w' (.slice A2 x.vals.length c2) x.vals∧FarO (Old w) (.slice A2 x.vals.length c2)
def put8 (W:World) (g:Nat) (u0 u1 u2 u3 u4 u5 u6 u7:Value):World:=(put4 W g u0 u1 u2 u3 |>.setCell ⟨g,4,none⟩ u4 |>.setCell ⟨g,5,none⟩ u5 |>.setCell ⟨g,6,none⟩ u6 |>.setCell ⟨g,7,none⟩ u7)
theorem bx8 {W:World} {g:Nat} {z0 z1 z2 z3 z4 z5 z6 z7:Value} {t:TypeId} (h:Bx W g #[z0,z1,z2,z3,z4,z5,z6,z7] t) :
 W.cell? ⟨g,0,none⟩=some z0∧W.cell? ⟨g,1,none⟩=some z1∧W.cell? ⟨g,2,none⟩=some z2∧W.cell? ⟨g,3,none⟩=some z3∧W.cell? ⟨g,4,none⟩=some z4∧W.cell? ⟨g,5,none⟩=some z5∧W.cell? ⟨g,6,none⟩=some z6∧W.cell? ⟨g,7,none⟩=some z7:=
 ⟨h.cell 0,h.cell 1,h.cell 2,h.cell 3,h.cell 4,h.cell 5,h.cell 6,h.cell 7⟩
theorem bx8' {W:World} {g:Nat} {z0 z1 z2 z3 z4 z5 z6 z7:Value} {t:TypeId} (h:Bx W g #[z0,z1,z2,z3,z4,z5,z6,z7] t) :
 W.frozen? ⟨g,0,none⟩=false∧W.frozen? ⟨g,1,none⟩=false∧W.frozen? ⟨g,2,none⟩=false∧W.frozen? ⟨g,3,none⟩=false∧W.frozen? ⟨g,4,none⟩=false∧W.frozen? ⟨g,5,none⟩=false∧W.frozen? ⟨g,6,none⟩=false∧W.frozen? ⟨g,7,none⟩=false:=
 ⟨h.no 0,h.no 1,h.no 2,h.no 3,h.no 4,h.no 5,h.no 6,h.no 7⟩
theorem bxput8 {W:World} {g:Nat} {z0 z1 z2 z3 z4 z5 z6 z7:Value} {t:TypeId} (h:Bx W g #[z0,z1,z2,z3,z4,z5,z6,z7] t) (u0 u1 u2 u3 u4 u5 u6 u7:Value) :
 Bx (Prs.put8 W g u0 u1 u2 u3 u4 u5 u6 u7) g #[u0,u1,u2,u3,u4,u5,u6,u7] t:=by
 have h0:Bx (W.setCell ⟨g,0,none⟩ u0) g #[u0,z1,z2,z3,z4,z5,z6,z7] t:=heap_setCell_same _ g 0 _ t u0 h
 have h1:Bx ((W.setCell ⟨g,0,none⟩ u0).setCell ⟨g,1,none⟩ u1) g #[u0,u1,z2,z3,z4,z5,z6,z7] t:=heap_setCell_same _ g 1 _ t u1 h0
 have h2:Bx (((W.setCell ⟨g,0,none⟩ u0).setCell ⟨g,1,none⟩ u1).setCell ⟨g,2,none⟩ u2) g #[u0,u1,u2,z3,z4,z5,z6,z7] t:=heap_setCell_same _ g 2 _ t u2 h1
 have h3:Bx ((((W.setCell ⟨g,0,none⟩ u0).setCell ⟨g,1,none⟩ u1).setCell ⟨g,2,none⟩ u2).setCell ⟨g,3,none⟩ u3) g #[u0,u1,u2,u3,z4,z5,z6,z7] t:=heap_setCell_same _ g 3 _ t u3 h2
 have h4:Bx (((((W.setCell ⟨g,0,none⟩ u0).setCell ⟨g,1,none⟩ u1).setCell ⟨g,2,none⟩ u2).setCell ⟨g,3,none⟩ u3).setCell ⟨g,4,none⟩ u4) g #[u0,u1,u2,u3,u4,z5,z6,z7] t:=heap_setCell_same _ g 4 _ t u4 h3
 have h5:Bx ((((((W.setCell ⟨g,0,none⟩ u0).setCell ⟨g,1,none⟩ u1).setCell ⟨g,2,none⟩ u2).setCell ⟨g,3,none⟩ u3).setCell ⟨g,4,none⟩ u4).setCell ⟨g,5,none⟩ u5) g #[u0,u1,u2,u3,u4,u5,z6,z7] t:=heap_setCell_same _ g 5 _ t u5 h4
 have h6:Bx (((((((W.setCell ⟨g,0,none⟩ u0).setCell ⟨g,1,none⟩ u1).setCell ⟨g,2,none⟩ u2).setCell ⟨g,3,none⟩ u3).setCell ⟨g,4,none⟩ u4).setCell ⟨g,5,none⟩ u5).setCell ⟨g,6,none⟩ u6) g #[u0,u1,u2,u3,u4,u5,u6,z7] t:=heap_setCell_same _ g 6 _ t u6 h5
 have h7:Bx ((((((((W.setCell ⟨g,0,none⟩ u0).setCell ⟨g,1,none⟩ u1).setCell ⟨g,2,none⟩ u2).setCell ⟨g,3,none⟩ u3).setCell ⟨g,4,none⟩ u4).setCell ⟨g,5,none⟩ u5).setCell ⟨g,6,none⟩ u6).setCell ⟨g,7,none⟩ u7) g #[u0,u1,u2,u3,u4,u5,u6,u7] t:=heap_setCell_same _ g 7 _ t u7 h6
 exact h7
theorem Itm.fin (h:Itm n w b rb xb N us ki nm bo d dm sz ou v vs ak W) :
 (∃ A1 c1 A2 c2,d = .slice A1 dm.length c1∧v = .slice A2 vs.length c2) ∧
 (∀ u0 u1 u2 u3 u4 u5 u6 u7,Rd b n us (put8 W rb u0 u1 u2 u3 u4 u5 u6 u7)∧Only b w (put8 W rb u0 u1 u2 u3 u4 u5 u6 u7)∧Sl 2 QR (put8 W rb u0 u1 u2 u3 u4 u5 u6 u7) d dm∧FarO (Old w) d∧Sl 4 (QX (Old w)) (put8 W rb u0 u1 u2 u3 u4 u5 u6 u7) v vs∧FarO (Old w) v):=by
 obtain⟨⟨h1,h2,h3,h4,h5,h6,h7⟩,h8,h9,h10,h11,⟨h12,h13⟩,h14,h15⟩:=h
 have hb:b<rb:=by omega
 have hw:∀ x,x<w.heap.size→x<N:=fun x hx=>by omega
 obtain⟨A1,c1,e1⟩:=h12.form
 obtain⟨A2,c2,e2⟩:=h14.form
 refine⟨⟨A1,c1,A2,c2,e1,e2⟩,fun u0 u1 u2 u3 u4 u5 u6 u7 => ?_⟩
 have k:Only rb W (put8 W rb u0 u1 u2 u3 u4 u5 u6 u7):=((((((((Only.refl _ _).set _).set _).set _).set _).set _).set _).set _).set _
 exact⟨(((((((h8.other _ hb).other _ hb).other _ hb).other _ hb).other _ hb).other _ hb).other _ hb).other _ hb,h9.new k h2,keepR h12 k h3 h13,h13.mono hw,(keepX h14 k h3 h15).mono (fun x u=>QX.less (fun b hb => .inl (hw b hb))),h15.mono hw⟩
end
end Go.Proofs.YtjmmcnldfkjebaaGreatDoor.Prs
namespace Go.Proofs.YtjmmcnldfkjebaaGreatDoor.Prs
open Go.RowKit
set_option linter.unusedVariables false
set_option linter.unusedSimpArgs false
open Dig Lx Tk Ps Ti
def constD (b:Bool):P Pl:=if b=true then bnd (one [L ⟨#[116,114,117,101]⟩,L ⟨#[102,97,108,115,101]⟩]) fun s=>ret (if (s.toList == [116,114,117,101])=true then ⟨2,1,nos⟩ else ⟨2,0,nos⟩) else bnd integer fun i=>ret ⟨1,i,nos⟩
theorem constant_any (b:Nat) (n:Int) (q:Bool) (ts:Ts) (w:World) (h:Rd b n ts w) :
 Calls Tryz.prog 156 #[.pointer (some ⟨b,0,none⟩),.bool q] w (Got (fun w' p v=>v=plv p) b n (constD q n ts) w):=by
 obtain⟨r,hr⟩:∃ r,r=constD q n ts:=⟨_,rfl⟩
 rw[← hr]
 have HR:=lH hr
 clear hr
 have hlt:=h.lt
 have HZ:=lH (Bx.fresh w #[.int .i64 0,.int .i64 0,.string ⟨#[]⟩,.slice none 0 0] 93)
 have hw0:=sA w (.cells #[.int .i64 0,.int .i64 0,.string ⟨#[]⟩,.slice none 0 0] 93)
 have o0:=Only.of (b:=b) hw0
 have h0:=h.since hw0
 cases q with
 | false =>
  go_enter Tryz.func156,Tryz.ntmps156
  go_wp2_with (first | (go_at_call 165; (with_reducible refine (number_any b n _ _ h0).mono ?_); rintro e w1 (⟨i,us1,_,x1,rfl,rfl,h1,o1⟩ | ⟨p,er,x1,rfl,o1⟩); have HZ1:=lH (o1.bx HZ.out (Nat.ne_of_gt hlt)); obtain⟨e0,e1,e2,e3⟩:=HZ1.out.four; obtain⟨f0,f1,f2,f3⟩:=HZ1.out.four'))
  case inr=>exact⟨rfl,.inr ⟨_,_,by rw[HR.out]; simp only[constD,bnd,R.bind,x1,Bool.false_eq_true,if_false],rfl,o0.trans o1⟩⟩
  have B:=(HZ1.out.put4 (.int .i64 1) (.int .i64 i) (.string ⟨#[]⟩) (.slice none 0 0))
  obtain⟨p0,p1,p2,p3⟩:=B.four
  unfold put4 at p0 p1 p2 p3
  obtain⟨k3,k4⟩:=Got.cell4 (u0:=.int .i64 1) (u1:=.int .i64 i) (u2:=.string ⟨#[]⟩) (u3:=.slice none 0 0) (o0.trans o1) (Nat.le_refl _) HZ1.out h1 hlt
  refine bodyPost_ret (v:=plv ⟨1,i,nos⟩) ?_ rfl ?_
  · simp[results,Tryz.results156,go_sem,p0,p1,p2,p3,nos]
  exact .inl ⟨⟨1,i,nos⟩,us1,_,by rw[HR.out]; simp only[constD,bnd,R.bind,ret,x1,Bool.false_eq_true,if_false,if_true],rfl,rfl,by first | exact k4 | exact k4.since (Since.drew (Since.refl _)),by first | exact k3 | exact k3.drew⟩
 | true =>
  go_enter Tryz.func156,Tryz.ntmps156
  go_wp2_with (first | (go_at_call 96; (with_reducible refine (choose2 h0 (by simp[World.setCell]) _ _ _).mono ?_); rintro e w1 (⟨s,us1,_,x1,rfl,rfl,h1,o1⟩ | ⟨p,er,x1,rfl,o1⟩); have HZ1:=lH (o1.bx HZ.out (Nat.ne_of_gt hlt)); obtain⟨e0,e1,e2,e3⟩:=HZ1.out.four; obtain⟨f0,f1,f2,f3⟩:=HZ1.out.four'))
  case inr=>exact⟨rfl,.inr ⟨_,_,by rw[HR.out]; simp only[constD,bnd,R.bind,x1,if_true],rfl,o0.trans o1⟩⟩
  · rename_i hq
    have B:=(HZ1.out.put4 (.int .i64 2) (.int .i64 1) (.string ⟨#[]⟩) (.slice none 0 0))
    obtain⟨p0,p1,p2,p3⟩:=B.four
    unfold put4 at p0 p1 p2 p3
    obtain⟨k3,k4⟩:=Got.cell4 (u0:=.int .i64 2) (u1:=.int .i64 1) (u2:=.string ⟨#[]⟩) (u3:=.slice none 0 0) (o0.trans o1) (Nat.le_refl _) HZ1.out h1 hlt
    refine bodyPost_ret (v:=plv ⟨2,1,nos⟩) ?_ rfl ?_
    · simp[results,Tryz.results156,go_sem,p0,p1,p2,p3,nos]
    exact .inl ⟨⟨2,1,nos⟩,us1,_,by rw[HR.out]; simp only[constD,hq,bnd,R.bind,ret,x1,Bool.false_eq_true,if_false,if_true],rfl,rfl,by first | exact k4 | exact k4.since (Since.drew (Since.refl _)),by first | exact k3 | exact k3.drew⟩
  · rename_i hq
    have B:=(HZ1.out.put4 (.int .i64 2) (.int .i64 0) (.string ⟨#[]⟩) (.slice none 0 0))
    obtain⟨p0,p1,p2,p3⟩:=B.four
    unfold put4 at p0 p1 p2 p3
    obtain⟨k3,k4⟩:=Got.cell4 (u0:=.int .i64 2) (u1:=.int .i64 0) (u2:=.string ⟨#[]⟩) (u3:=.slice none 0 0) (o0.trans o1) (Nat.le_refl _) HZ1.out h1 hlt
    refine bodyPost_ret (v:=plv ⟨2,0,nos⟩) ?_ rfl ?_
    · simp[results,Tryz.results156,go_sem,p0,p1,p2,p3,nos]
    exact .inl ⟨⟨2,0,nos⟩,us1,_,by rw[HR.out]; simp only[constD,hq,bnd,R.bind,ret,x1,Bool.false_eq_true,if_false,if_true],rfl,rfl,by first | exact k4 | exact k4.since (Since.drew (Since.refl _)),by first | exact k3 | exact k3.drew⟩
def domD:P (List (Int × Int)):=bnd (skp (L ⟨#[123]⟩)) fun q=>if q=true then serD singleD ⟨#[125]⟩ 256 257 [] else bnd integer fun lo=>bnd (takes [L ⟨#[46,46]⟩]) fun _=>bnd integer fun hi=>ret [(lo,hi)]
theorem sl_one (w:World) (lo hi:Int) (t:TypeId) {g:Nat} (hg:g=w.heap.size):Sl 2 QR (w.alloc (.cells #[.int .i64 lo,.int .i64 hi] t)) (.slice (some ⟨g,0,none⟩) 1 1) [(lo,hi)]:=by
 subst hg
 refine⟨some ⟨w.heap.size,0,none⟩,1,rfl,Nat.le_refl _,fun _=>⟨_,0,rfl,fun i x hx => ?_⟩⟩
 cases i with
 | succ i=>simp at hx
 | zero =>
  simp only[List.getElem?_cons_zero,Option.some.injEq] at hx
  subst hx
  refine⟨_,rfl,rfl,fun j y hy => ?_⟩
  have:=cell_new w #[.int .i64 lo,.int .i64 hi] t rfl (j:=j) (u:=y) (by simpa using hy)
  rw[add_at] at this
  simpa using this
theorem far_new {w W:World} {n c:Nat} {g:Nat} (hg:g=W.heap.size) (h:w.heap.size≤W.heap.size):FarO (Old w) (.slice (some ⟨g,0,none⟩) n c):=by
 rintro b o n' c' e _ hb
 have:b<w.heap.size:=hb
 simp only[Value.slice.injEq,Option.some.injEq,Addr.mk.injEq] at e
 omega
theorem domain_any (b:Nat) (n:Int) (ts:Ts) (w:World) (h0:Rd b n ts w) :
 Calls Tryz.prog 148 #[.pointer (some ⟨b,0,none⟩)] w (Got (fun w' l v=>Sl 2 QR w' v l∧FarO (Old w) v) b n (domD n ts) w):=by
 have hmf:∀ (fn:Fn) (first cap:Array Value) (w:World),(Instr.makeFunc fn first cap).run Tryz.prog w = .ok (.func fn first cap) w:=fun _ _ _ _=>rfl
 obtain⟨r,hr⟩:∃ r,r=domD n ts:=⟨_,rfl⟩
 rw[← hr]
 have HR:=lH hr
 clear hr
 go_enter Tryz.func148,Tryz.ntmps148
 go_wp2_with (first
  | (go_at_call 147; (with_reducible refine (skip_any b n _ _ _ h0).mono ?_); rintro e w1 (⟨q,us1,_,x1,rfl,rfl,h1,o1⟩ | ⟨p,er,x1,rfl,o1⟩); cases q)
  | (go_at_call 163; (with_reducible refine (seriesR_256 b n _ _ _ h1).mono ?_); rintro e w2 (⟨l,us2,_,x2,rfl,⟨k1,k2⟩,h2,o2⟩ | ⟨p,er,x2,rfl,o2⟩))
  | (go_at_call 165; (with_reducible refine (number_any b n _ _ h1).mono ?_); rintro e w2 (⟨lo,us2,_,x2,rfl,rfl,h2,o2⟩ | ⟨p,er,x2,rfl,o2⟩))
  | (go_at_call 98; (with_reducible refine (follow1 h2 (by simp[World.setCell]) _ _).mono ?_); rintro e w3 (⟨_,us3,_,x3,rfl,rfl,h3,o3⟩ | ⟨p,er,x3,rfl,o3⟩))
  | (go_at_call 165; (with_reducible refine (number_any b n _ _ h3).mono ?_); rintro e w4 (⟨hi,us4,_,x4,rfl,rfl,h4,o4⟩ | ⟨p,er,x4,rfl,o4⟩)))
 all_goals first
  | (go_ret; exact .inl ⟨l,us2,_,by rw[HR.out]; simp only[domD,bnd,R.bind,ret,Bool.false_eq_true,if_false,if_true,x1,x2],rfl,⟨k1,k2.mono (fun b hb=>Nat.lt_of_lt_of_le hb o1.size)⟩,h2,o1.trans o2⟩)
  | (go_ret; exact .inl ⟨[(lo,hi)],us4,_,by rw[HR.out]; simp only[domD,bnd,R.bind,ret,Bool.false_eq_true,if_false,if_true,x1,x2,x3,x4],rfl,⟨sl_one w4 lo hi _ rfl,far_new (W:=w4) rfl (o1.trans (o2.trans (o3.trans o4))).size⟩,h4.since (sA _ _),(o1.trans (o2.trans (o3.trans o4))).alloc _⟩)
  | (exact⟨rfl,.inr ⟨_,_,by rw[HR.out]; simp only[domD,bnd,R.bind,ret,Bool.false_eq_true,if_false,if_true,x1,x2,x3,x4],rfl,o1.trans (o2.trans (o3.trans (o4)))⟩⟩)
  | (exact⟨rfl,.inr ⟨_,_,by rw[HR.out]; simp only[domD,bnd,R.bind,ret,Bool.false_eq_true,if_false,if_true,x1,x2,x3],rfl,o1.trans (o2.trans (o3))⟩⟩)
  | (exact⟨rfl,.inr ⟨_,_,by rw[HR.out]; simp only[domD,bnd,R.bind,ret,Bool.false_eq_true,if_false,if_true,x1,x2],rfl,o1.trans (o2)⟩⟩)
  | (exact⟨rfl,.inr ⟨_,_,by rw[HR.out]; simp only[domD,bnd,R.bind,ret,Bool.false_eq_true,if_false,if_true,x1],rfl,o1⟩⟩)
end Go.Proofs.YtjmmcnldfkjebaaGreatDoor.Prs
namespace Go.Proofs.YtjmmcnldfkjebaaGreatDoor.Prs
open Go.RowKit
set_option linter.unusedVariables false
set_option linter.unusedSimpArgs false
open Dig Lx Tk Ps Ti
section
variable {n:Int} {w:World} {b rb xb N:Nat} {us:Ts} {ki:Int} {nm:ByteArray} {bo:Bool} {d:Value} {dm:List (Int × Int)} {sz:Int} {ou:Bool} {v:Value} {vs:List Xp} {ak:Int} {W:World}
theorem Itm.alloc (h:Itm n w b rb xb N us ki nm bo d dm sz ou v vs ak W) (o:Obj):Itm n w b rb xb N us ki nm bo d dm sz ou v vs ak (W.alloc o):=h.call (h.rd.since (sA _ _)) (.of (sA _ _))
theorem Itm.got (h:Itm n w b rb xb N us ki nm bo d dm sz ou v vs ak W) :
 ((put8 W rb (.int .i64 ki) (.string nm) (.bool bo) d (.int .i64 sz) (.bool ou) v (.int .i64 ak)).cell? ⟨rb,0,none⟩=some (.int .i64 ki)∧(put8 W rb (.int .i64 ki) (.string nm) (.bool bo) d (.int .i64 sz) (.bool ou) v (.int .i64 ak)).cell? ⟨rb,1,none⟩=some (.string nm)∧(put8 W rb (.int .i64 ki) (.string nm) (.bool bo) d (.int .i64 sz) (.bool ou) v (.int .i64 ak)).cell? ⟨rb,2,none⟩=some (.bool bo)∧(put8 W rb (.int .i64 ki) (.string nm) (.bool bo) d (.int .i64 sz) (.bool ou) v (.int .i64 ak)).cell? ⟨rb,3,none⟩=some d ∧
  (put8 W rb (.int .i64 ki) (.string nm) (.bool bo) d (.int .i64 sz) (.bool ou) v (.int .i64 ak)).cell? ⟨rb,4,none⟩=some (.int .i64 sz)∧(put8 W rb (.int .i64 ki) (.string nm) (.bool bo) d (.int .i64 sz) (.bool ou) v (.int .i64 ak)).cell? ⟨rb,5,none⟩=some (.bool ou)∧(put8 W rb (.int .i64 ki) (.string nm) (.bool bo) d (.int .i64 sz) (.bool ou) v (.int .i64 ak)).cell? ⟨rb,6,none⟩=some v∧(put8 W rb (.int .i64 ki) (.string nm) (.bool bo) d (.int .i64 sz) (.bool ou) v (.int .i64 ak)).cell? ⟨rb,7,none⟩=some (.int .i64 ak)) ∧
 Rd b n us (put8 W rb (.int .i64 ki) (.string nm) (.bool bo) d (.int .i64 sz) (.bool ou) v (.int .i64 ak))∧Only b w (put8 W rb (.int .i64 ki) (.string nm) (.bool bo) d (.int .i64 sz) (.bool ou) v (.int .i64 ak)) ∧
 IV w (put8 W rb (.int .i64 ki) (.string nm) (.bool bo) d (.int .i64 sz) (.bool ou) v (.int .i64 ak)) ⟨ki,nm,bo,dm,sz,ou,vs,ak⟩ (.agg #[.int .i64 ki,.string nm,.bool bo,d,.int .i64 sz,.bool ou,v,.int .i64 ak]):=by
 have hB:=bx8 (bxput8 h.br (.int .i64 ki) (.string nm) (.bool bo) d (.int .i64 sz) (.bool ou) v (.int .i64 ak))
 obtain⟨⟨A1,c1,A2,c2,rfl,rfl⟩,hF⟩:=h.fin
 obtain⟨g1,g2,g3,g4,g5,g6⟩:=hF (.int .i64 ki) (.string nm) (.bool bo) (.slice A1 dm.length c1) (.int .i64 sz) (.bool ou) (.slice A2 vs.length c2) (.int .i64 ak)
 exact⟨hB,g1,g2,A1,c1,A2,c2,rfl,g3,g4,g5,g6⟩
theorem Itm.mid (hb:b<w.heap.size) (hr:Rd b n us W) (ho:Only b w W) (hz:Bx W rb Z8 TI) (h1:w.heap.size≤rb) (ki:Int) (nm:ByteArray) (bo:Bool) (sz:Int) :
 Itm n w b rb W.heap.size (W.heap.size+1) us ki nm bo (.slice none 0 0) [] sz false (.slice none 0 0) [] 0 (W.alloc (.cells #[.int .i64 ki,.string nm,.bool bo,.slice none 0 0,.int .i64 sz,.bool false,.slice none 0 0,.int .i64 0] TI)):=by
 have h2:=hz.lt
 have h3:=ho.size
 exact⟨⟨hb,h1,by omega,h3,by omega,by omega,by simp⟩,hr.since (sA _ _),ho.alloc _,hz.since (sA _ _),Bx.fresh _ _ _,⟨Sl.nil _ _ _,FarO.no⟩,Sl.nil _ _ _,FarO.no⟩
theorem Itm.start (hr:Rd b n us w) (ki:Int) (nm:ByteArray) (bo:Bool) (sz:Int) :
 Itm n w b w.heap.size (w.heap.size+1) (w.heap.size+2) us ki nm bo (.slice none 0 0) [] sz false (.slice none 0 0) [] 0 ((w.alloc (.cells Z8 TI)).alloc (.cells #[.int .i64 ki,.string nm,.bool bo,.slice none 0 0,.int .i64 sz,.bool false,.slice none 0 0,.int .i64 0] TI)):=by
 have h:=Itm.mid (W:=w.alloc (.cells Z8 TI)) hr.lt (hr.since (sA _ _)) (.of (sA _ _)) (Bx.fresh _ _ _) (Nat.le_refl _) ki nm bo sz
 have e:(w.alloc (.cells Z8 TI)).heap.size=w.heap.size+1:=by simp
 rw[e] at h
 exact h
theorem slx_one (w:World) (p:Pl) (G:Nat→Prop) (t:TypeId):Sl 4 (QX G) (w.alloc (.cells #[.int .i64 p.k,.int .i64 p.n,.string p.s,.slice none 0 0] t)) (.slice (some ⟨w.heap.size,0,none⟩) 1 1) [p.xp]:=by
 refine⟨some ⟨w.heap.size,0,none⟩,1,rfl,Nat.le_refl _,fun _=>⟨_,0,rfl,fun i x hx => ?_⟩⟩
 cases i with
 | succ i=>simp at hx
 | zero =>
  simp only[List.getElem?_cons_zero,Option.some.injEq] at hx
  subst hx
  refine⟨[.int .i64 p.k,.int .i64 p.n,.string p.s,.slice none 0 0],⟨_,rfl,Sl.nil _ _ _,FarO.no⟩,rfl,fun j y hy => ?_⟩
  have:=cell_new w #[.int .i64 p.k,.int .i64 p.n,.string p.s,.slice none 0 0] t rfl (j:=j) (u:=y) (by simpa using hy)
  rw[add_at] at this
  simpa using this
theorem far_one {N n c:Nat} {W:World} (h:N≤W.heap.size):FarO (fun b=>b<N) (.slice (some ⟨W.heap.size,0,none⟩) n c):=by
 rintro b o n' c' e _ hb
 simp only[Value.slice.injEq,Option.some.injEq,Addr.mk.injEq] at e
 have:b<N:=hb
 omega
theorem Itm.one (p:Pl) (t:TypeId) (h:Itm n w b rb xb N us ki nm bo d dm sz ou v vs ak W) :
 Itm n w b rb xb N us ki nm bo d dm sz ou (.slice (some ⟨W.heap.size,0,none⟩) 1 1) [p.xp] ak ((W.alloc (.cells #[.int .i64 p.k,.int .i64 p.n,.string p.s,.slice none 0 0] t)).setCell ⟨xb,6,none⟩ (.slice (some ⟨W.heap.size,0,none⟩) 1 1)):=
 (h.alloc _).vals _ _ (slx_one W p _ t) (far_one h.big)
end
def parD (q:Bool):P It:=bnd (takes [L ⟨#[58]⟩]) fun _=>bnd name fun s=>bnd (takes [L ⟨#[61]⟩]) fun _=>bnd (constD q) fun p=>ret ⟨1,s,q,[],0,false,[p.xp],0⟩
theorem parameter_any (b:Nat) (n:Int) (q:Bool) (ts:Ts) (w:World) (h:Rd b n ts w) :
 Calls Tryz.prog 130 #[.pointer (some ⟨b,0,none⟩),.bool q] w (Got (IV w) b n (parD q n ts) w):=by
 obtain⟨r,hr⟩:∃ r,r=parD q n ts:=⟨_,rfl⟩
 rw[← hr]
 have HR:=lH hr
 clear hr
 have I0:=Itm.start h 1 ⟨#[]⟩ q 0
 go_enter Tryz.func130,Tryz.ntmps130
 go_wp2_with (first
  | (go_at_call 98; (with_reducible refine (follow1 (I0.rd) (by simp[World.setCell]) _ _).mono ?_); rintro e w1 (⟨_,us1,_,x1,rfl,rfl,h1,o1⟩ | ⟨p,er,x1,rfl,o1⟩); have I1:=I0.call h1 o1)
  | (go_at_call 149; (with_reducible refine (name_any b n _ _ I1.rd).mono ?_); rintro e w2 (⟨s,us2,_,x2,rfl,rfl,h2,o2⟩ | ⟨p,er,x2,rfl,o2⟩); have I2:=I1.call h2 o2; have K2:=I2.name s; have qs:=(bx8 I2.bx).2.1; have fs:=(bx8' I2.bx).2.1)
  | (go_at_call 98; (with_reducible refine (follow1 (K2.rd) (by simp[World.setCell]) _ _).mono ?_); rintro e w3 (⟨_,us3,_,x3,rfl,rfl,h3,o3⟩ | ⟨p,er,x3,rfl,o3⟩); have I3:=K2.call h3 o3)
  | (go_at_call 156; (with_reducible refine (constant_any b n q _ _ I3.rd).mono ?_); rintro e w4 (⟨p,us4,_,x4,rfl,rfl,h4,o4⟩ | ⟨p,er,x4,rfl,o4⟩); have I4:=I3.call h4 o4; have J4:=I4.alloc (.cells #[.int .i64 p.k,.int .i64 p.n,.string p.s,.slice none 0 0] 93); have qs:=(bx8 J4.bx).2.2.2.2.2.2.1; have fs:=(bx8' J4.bx).2.2.2.2.2.2.1; have K4:=I4.one p 93; obtain⟨q0,q1,q2,q3,q4,q5,q6,q7⟩:=bx8 K4.bx; obtain⟨e0,e1,e2,e3,e4,e5,e6,e7⟩:=bx8 K4.br; obtain⟨f0,f1,f2,f3,f4,f5,f6,f7⟩:=bx8' K4.br))
 all_goals first
  | (obtain⟨⟨p0,p1,p2,p3,p4,p5,p6,p7⟩,g1,g2,g3⟩:=K4.got; unfold put8 put4 at p0 p1 p2 p3 p4 p5 p6 p7; refine bodyPost_ret ?_ rfl (.inl ⟨⟨1,_,q,[],0,false,[p.xp],0⟩,us4,_,by rw[HR.out]; simp only[parD,bnd,R.bind,ret,Bool.false_eq_true,if_false,if_true,x1,x2,x3,x4],rfl,g3,g1,g2⟩); simp[results,Tryz.results130,go_sem,p0,p1,p2,p3,p4,p5,p6,p7])
  | (exact⟨rfl,.inr ⟨_,_,by rw[HR.out]; simp only[parD,bnd,R.bind,ret,Bool.false_eq_true,if_false,if_true,x1,x2,x3,x4],rfl,(I3.only).trans o4⟩⟩)
  | (exact⟨rfl,.inr ⟨_,_,by rw[HR.out]; simp only[parD,bnd,R.bind,ret,Bool.false_eq_true,if_false,if_true,x1,x2,x3],rfl,(K2.only).trans o3⟩⟩)
  | (exact⟨rfl,.inr ⟨_,_,by rw[HR.out]; simp only[parD,bnd,R.bind,ret,Bool.false_eq_true,if_false,if_true,x1,x2],rfl,(I1.only).trans o2⟩⟩)
  | (exact⟨rfl,.inr ⟨_,_,by rw[HR.out]; simp only[parD,bnd,R.bind,ret,Bool.false_eq_true,if_false,if_true,x1],rfl,(I0.only).trans o1⟩⟩)
def conD:P It:=bnd name fun s=>bnd (takes [L ⟨#[40]⟩]) fun _=>bnd (exprsD exprE ⟨#[41]⟩) fun l=>ret ⟨5,s,false,[],0,false,l,0⟩
theorem constraint_any (b:Nat) (n:Int) (ts:Ts) (w:World) (h:Rd b n ts w) :
 Calls Tryz.prog 128 #[.pointer (some ⟨b,0,none⟩)] w (Got (IV w) b n (conD n ts) w):=by
 have hmf:∀ (fn:Fn) (first cap:Array Value) (w:World),(Instr.makeFunc fn first cap).run Tryz.prog w = .ok (.func fn first cap) w:=fun _ _ _ _=>rfl
 obtain⟨r,hr⟩:∃ r,r=conD n ts:=⟨_,rfl⟩
 rw[← hr]
 have HR:=lH hr
 clear hr
 have hw0:=sA w (.cells Z8 TI)
 have h0:=h.since hw0
 have o0:=Only.of (b:=b) hw0
 have hlt:=h.lt
 have HZ:=lH (Bx.fresh w Z8 TI)
 go_enter Tryz.func128,Tryz.ntmps128
 go_wp2_with (first
  | (go_at_call 149; (with_reducible refine (name_any b n _ _ h0).mono ?_); rintro e w1 (⟨s,us1,_,x1,rfl,rfl,h1,o1⟩ | ⟨p,er,x1,rfl,o1⟩); have I1:=Itm.mid hlt h1 (o0.trans o1) (o1.bx HZ.out (Nat.ne_of_gt hlt)) (Nat.le_refl _) 5 s false 0)
  | (go_at_call 98; (with_reducible refine (follow1 (I1.rd) (by simp[World.setCell]) _ _).mono ?_); rintro e w2 (⟨_,us2,_,x2,rfl,rfl,h2,o2⟩ | ⟨p,er,x2,rfl,o2⟩); have I2:=I1.call h2 o2)
  | (go_at_call 154; (with_reducible refine (exprsX_any b n _ _ _ I2.rd).mono ?_); rintro e w3 (⟨l,us3,_,x3,rfl,⟨k1,k2⟩,h3,o3⟩ | ⟨p,er,x3,rfl,o3⟩); have I3:=I2.call h3 o3; obtain⟨A,c,rfl⟩:=k1.form; have K3:=I3.vals _ l (k1.mono fun x u=>QX.less fun b hb => .inl (Nat.lt_of_lt_of_le hb I2.big)) (k2.mono fun b hb=>Nat.lt_of_lt_of_le hb I2.big); have qs:=(bx8 I3.bx).2.2.2.2.2.2.1; have fs:=(bx8' I3.bx).2.2.2.2.2.2.1; obtain⟨q0,q1,q2,q3,q4,q5,q6,q7⟩:=bx8 K3.bx; obtain⟨e0,e1,e2,e3,e4,e5,e6,e7⟩:=bx8 K3.br; obtain⟨f0,f1,f2,f3,f4,f5,f6,f7⟩:=bx8' K3.br))
 all_goals first
  | (obtain⟨⟨p0,p1,p2,p3,p4,p5,p6,p7⟩,g1,g2,g3⟩:=K3.got; unfold put8 put4 at p0 p1 p2 p3 p4 p5 p6 p7; refine bodyPost_ret ?_ rfl (.inl ⟨⟨5,_,false,[],0,false,l,0⟩,us3,_,by rw[HR.out]; simp only[conD,bnd,R.bind,ret,Bool.false_eq_true,if_false,if_true,x1,x2,x3],rfl,g3,g1,g2⟩); simp[results,Tryz.results128,go_sem,p0,p1,p2,p3,p4,p5,p6,p7])
  | (exact⟨rfl,.inr ⟨_,_,by rw[HR.out]; simp only[conD,bnd,R.bind,ret,Bool.false_eq_true,if_false,if_true,x1,x2,x3],rfl,(I2.only).trans o3⟩⟩)
  | (exact⟨rfl,.inr ⟨_,_,by rw[HR.out]; simp only[conD,bnd,R.bind,ret,Bool.false_eq_true,if_false,if_true,x1,x2],rfl,(I1.only).trans o2⟩⟩)
  | (exact⟨rfl,.inr ⟨_,_,by rw[HR.out]; simp only[conD,bnd,R.bind,ret,Bool.false_eq_true,if_false,if_true,x1],rfl,(o0).trans o1⟩⟩)
theorem em3 (p q:Bool):p=true∨(p=false∧q=true)∨(p=false∧q=false):=by cases p <;> cases q <;> simp
def reqD:P It:=bnd (one [L ⟨#[115,97,116,105,115,102,121]⟩,L ⟨#[109,105,110,105,109,105,122,101]⟩,L ⟨#[109,97,120,105,109,105,122,101]⟩]) fun s=>if (s.toList == [109,105,110,105,109,105,122,101])=true then bnd name fun x=>ret ⟨6,x,false,[],0,false,[],1⟩ else if (s.toList == [109,97,120,105,109,105,122,101])=true then bnd name fun x=>ret ⟨6,x,false,[],0,false,[],2⟩ else ret ⟨6,nos,false,[],0,false,[],0⟩
theorem request_any (b:Nat) (n:Int) (ts:Ts) (w:World) (h:Rd b n ts w) :
 Calls Tryz.prog 129 #[.pointer (some ⟨b,0,none⟩)] w (Got (IV w) b n (reqD n ts) w):=by
 obtain⟨r,hr⟩:∃ r,r=reqD n ts:=⟨_,rfl⟩
 rw[← hr]
 have HR:=lH hr
 clear hr
 have I0:=Itm.start h 6 ⟨#[]⟩ false 0
 go_enter Tryz.func129,Tryz.ntmps129
 go_wp2_with (first
  | (go_at_call 96; (with_reducible refine (choose3 (I0.rd) (by simp[World.setCell]) _ _ _ _).mono ?_); rintro e w1 (⟨s,us1,_,x1,rfl,rfl,h1,o1⟩ | ⟨p,er,x1,rfl,o1⟩); have I1:=I0.call h1 o1; have Ka:=I1.ask 1; have Kb:=I1.ask 2; have qs:=(bx8 I1.bx).2.2.2.2.2.2.2; have fs:=(bx8' I1.bx).2.2.2.2.2.2.2; have la:=(bx8 Ka.bx).2.2.2.2.2.2.2; have lb:=(bx8 Kb.bx).2.2.2.2.2.2.2; obtain⟨q0,q1,q2,q3,q4,q5,q6,q7⟩:=bx8 I1.bx; obtain⟨e0,e1,e2,e3,e4,e5,e6,e7⟩:=bx8 I1.br; obtain⟨f0,f1,f2,f3,f4,f5,f6,f7⟩:=bx8' I1.br; rcases em3 (s.toList == [109,105,110,105,109,105,122,101]) (s.toList == [109,97,120,105,109,105,122,101]) with y1 | ⟨y1,y2⟩ | ⟨y1,y2⟩)
  | (go_at_call 149; (with_reducible refine (name_any b n _ _ Ka.rd).mono ?_); rintro e w2 (⟨x,us2,_,x2,rfl,rfl,h2,o2⟩ | ⟨p,er,x2,rfl,o2⟩); have I2:=Ka.call h2 o2; have K2:=I2.name x; have qs:=(bx8 I2.bx).2.1; have fs:=(bx8' I2.bx).2.1; obtain⟨q0,q1,q2,q3,q4,q5,q6,q7⟩:=bx8 K2.bx; obtain⟨e0,e1,e2,e3,e4,e5,e6,e7⟩:=bx8 K2.br; obtain⟨f0,f1,f2,f3,f4,f5,f6,f7⟩:=bx8' K2.br)
  | (go_at_call 149; (with_reducible refine (name_any b n _ _ Kb.rd).mono ?_); rintro e w3 (⟨x,us3,_,x3,rfl,rfl,h3,o3⟩ | ⟨p,er,x3,rfl,o3⟩); have I3:=Kb.call h3 o3; have K3:=I3.name x; have qs:=(bx8 I3.bx).2.1; have fs:=(bx8' I3.bx).2.1; obtain⟨q0,q1,q2,q3,q4,q5,q6,q7⟩:=bx8 K3.bx; obtain⟨e0,e1,e2,e3,e4,e5,e6,e7⟩:=bx8 K3.br; obtain⟨f0,f1,f2,f3,f4,f5,f6,f7⟩:=bx8' K3.br))
 all_goals first
  | (obtain⟨⟨p0,p1,p2,p3,p4,p5,p6,p7⟩,g1,g2,g3⟩:=K2.got; unfold put8 put4 at p0 p1 p2 p3 p4 p5 p6 p7; refine bodyPost_ret ?_ rfl (.inl ⟨⟨6,x,false,[],0,false,[],1⟩,us2,_,by rw[HR.out]; simp only[reqD,bnd,R.bind,ret,Bool.false_eq_true,if_false,if_true,y1,x1,x2],rfl,g3,g1,g2⟩); simp[results,Tryz.results129,go_sem,p0,p1,p2,p3,p4,p5,p6,p7])
  | (obtain⟨⟨p0,p1,p2,p3,p4,p5,p6,p7⟩,g1,g2,g3⟩:=K3.got; unfold put8 put4 at p0 p1 p2 p3 p4 p5 p6 p7; refine bodyPost_ret ?_ rfl (.inl ⟨⟨6,x,false,[],0,false,[],2⟩,us3,_,by rw[HR.out]; simp only[reqD,bnd,R.bind,ret,Bool.false_eq_true,if_false,if_true,y1,y2,x1,x3],rfl,g3,g1,g2⟩); simp[results,Tryz.results129,go_sem,p0,p1,p2,p3,p4,p5,p6,p7])
  | (obtain⟨⟨p0,p1,p2,p3,p4,p5,p6,p7⟩,g1,g2,g3⟩:=I1.got; unfold put8 put4 at p0 p1 p2 p3 p4 p5 p6 p7; refine bodyPost_ret ?_ rfl (.inl ⟨⟨6,⟨#[]⟩,false,[],0,false,[],0⟩,us1,_,by rw[HR.out]; simp only[reqD,bnd,R.bind,ret,Bool.false_eq_true,if_false,if_true,y1,y2,nos,x1],rfl,g3,g1,g2⟩); simp[results,Tryz.results129,go_sem,p0,p1,p2,p3,p4,p5,p6,p7])
  | (exact⟨rfl,.inr ⟨_,_,by rw[HR.out]; simp only[reqD,bnd,R.bind,ret,Bool.false_eq_true,if_false,if_true,y1,y2,x1,x3],rfl,(Kb.only).trans o3⟩⟩)
  | (exact⟨rfl,.inr ⟨_,_,by rw[HR.out]; simp only[reqD,bnd,R.bind,ret,Bool.false_eq_true,if_false,if_true,y1,x1,x2],rfl,(Ka.only).trans o2⟩⟩)
  | (exact⟨rfl,.inr ⟨_,_,by rw[HR.out]; simp only[reqD,bnd,R.bind,ret,Bool.false_eq_true,if_false,if_true,x1],rfl,(I0.only).trans o1⟩⟩)
end Go.Proofs.YtjmmcnldfkjebaaGreatDoor.Prs
namespace Go.Proofs.YtjmmcnldfkjebaaGreatDoor.Prs
open Go.RowKit
set_option linter.unusedVariables false
set_option linter.unusedSimpArgs false
open Dig Lx Tk Ps Ti
def varD:P It:=bnd (skp (L ⟨#[98,111,111,108]⟩)) fun q=>bnd (if q=true then ret [] else domD) fun d=>bnd (takes [L ⟨#[58]⟩]) fun _=>bnd name fun s=>bnd (skp (L ⟨#[58,58]⟩)) fun o =>
 bnd (if o=true then takes [L ⟨#[111,117,116,112,117,116,95,118,97,114]⟩] else ret ()) fun _=>bnd (skp (L ⟨#[61]⟩)) fun y=>bnd (if y=true then bnd plain fun p=>ret [p.xp] else ret []) fun vs=>ret ⟨2,s,q,d,0,o,vs,0⟩
theorem variable_any (b:Nat) (n:Int) (ts:Ts) (w:World) (h:Rd b n ts w) :
 Calls Tryz.prog 126 #[.pointer (some ⟨b,0,none⟩)] w (Got (IV w) b n (varD n ts) w):=by
 obtain⟨r,hr⟩:∃ r,r=varD n ts:=⟨_,rfl⟩
 rw[← hr]
 have HR:=lH hr
 clear hr
 have I0:=Itm.start h 2 ⟨#[]⟩ false 0
 go_enter Tryz.func126,Tryz.ntmps126
 go_wp2_with (first
  | (go_at_call 147; (with_reducible refine (skip_any b n _ _ _ I0.rd).mono ?_); rintro e w1 (⟨z1,us1,_,x1,rfl,rfl,h1,o1⟩ | ⟨p,er,x1,rfl,o1⟩); have I1:=I0.call h1 o1; have qs:=(bx8 I1.bx).2.2.1; have fs:=(bx8' I1.bx).2.2.1; have K1t:=I1.bool true; have K1f:=I1.bool false; have la:=(bx8 K1t.bx).2.2.1; have lb:=(bx8 K1f.bx).2.2.1; cases z1)
  | (go_at_call 98; (with_reducible refine (follow1 (K1t.rd) (by simp[World.setCell]) _ _).mono ?_); rintro e w2 (⟨_,us2,_,x2,rfl,rfl,h2,o2⟩ | ⟨p,er,x2,rfl,o2⟩); have I2:=K1t.call h2 o2)
  | (go_at_call 149; (with_reducible refine (name_any b n _ _ I2.rd).mono ?_); rintro e w3 (⟨s,us3,_,x3,rfl,rfl,h3,o3⟩ | ⟨p,er,x3,rfl,o3⟩); have I3:=I2.call h3 o3; have K3:=I3.name s; have qs:=(bx8 I3.bx).2.1; have fs:=(bx8' I3.bx).2.1)
  | (go_at_call 147; (with_reducible refine (skip_any b n _ _ _ K3.rd).mono ?_); rintro e w4 (⟨z4,us4,_,x4,rfl,rfl,h4,o4⟩ | ⟨p,er,x4,rfl,o4⟩); have I4:=K3.call h4 o4; have qs:=(bx8 I4.bx).2.2.2.2.2.1; have fs:=(bx8' I4.bx).2.2.2.2.2.1; have K4t:=I4.out true; have K4f:=I4.out false; have la:=(bx8 K4t.bx).2.2.2.2.2.1; have lb:=(bx8 K4f.bx).2.2.2.2.2.1; cases z4)
  | (go_at_call 98; (with_reducible refine (follow1 (K4t.rd) (by simp[World.setCell]) _ _).mono ?_); rintro e w5 (⟨_,us5,_,x5,rfl,rfl,h5,o5⟩ | ⟨p,er,x5,rfl,o5⟩); have I5:=K4t.call h5 o5)
  | (go_at_call 147; (with_reducible refine (skip_any b n _ _ _ I5.rd).mono ?_); rintro e w6 (⟨z6,us6,_,x6,rfl,rfl,h6,o6⟩ | ⟨p,er,x6,rfl,o6⟩); have I6:=I5.call h6 o6; obtain⟨q0,q1,q2,q3,q4,q5,q6,q7⟩:=bx8 I6.bx; obtain⟨e0,e1,e2,e3,e4,e5,e6,e7⟩:=bx8 I6.br; obtain⟨f0,f1,f2,f3,f4,f5,f6,f7⟩:=bx8' I6.br; cases z6)
  | (go_at_call 150; (with_reducible refine (plain_any b n _ _ I6.rd).mono ?_); rintro e w7 (⟨p,us7,_,x7,rfl,rfl,h7,o7⟩ | ⟨p,er,x7,rfl,o7⟩); have I7:=I6.call h7 o7; have J7:=I7.alloc (.cells #[.int .i64 p.k,.int .i64 p.n,.string p.s,.slice none 0 0] 93); have qs:=(bx8 J7.bx).2.2.2.2.2.2.1; have fs:=(bx8' J7.bx).2.2.2.2.2.2.1; have K7:=I7.one p 93; obtain⟨q0,q1,q2,q3,q4,q5,q6,q7⟩:=bx8 K7.bx; obtain⟨e0,e1,e2,e3,e4,e5,e6,e7⟩:=bx8 K7.br; obtain⟨f0,f1,f2,f3,f4,f5,f6,f7⟩:=bx8' K7.br)
  | (go_at_call 147; (with_reducible refine (skip_any b n _ _ _ K4f.rd).mono ?_); rintro e w8 (⟨z8,us8,_,x8,rfl,rfl,h8,o8⟩ | ⟨p,er,x8,rfl,o8⟩); have I8:=K4f.call h8 o8; obtain⟨q0,q1,q2,q3,q4,q5,q6,q7⟩:=bx8 I8.bx; obtain⟨e0,e1,e2,e3,e4,e5,e6,e7⟩:=bx8 I8.br; obtain⟨f0,f1,f2,f3,f4,f5,f6,f7⟩:=bx8' I8.br; cases z8)
  | (go_at_call 150; (with_reducible refine (plain_any b n _ _ I8.rd).mono ?_); rintro e w9 (⟨p,us9,_,x9,rfl,rfl,h9,o9⟩ | ⟨p,er,x9,rfl,o9⟩); have I9:=I8.call h9 o9; have J9:=I9.alloc (.cells #[.int .i64 p.k,.int .i64 p.n,.string p.s,.slice none 0 0] 93); have qs:=(bx8 J9.bx).2.2.2.2.2.2.1; have fs:=(bx8' J9.bx).2.2.2.2.2.2.1; have K9:=I9.one p 93; obtain⟨q0,q1,q2,q3,q4,q5,q6,q7⟩:=bx8 K9.bx; obtain⟨e0,e1,e2,e3,e4,e5,e6,e7⟩:=bx8 K9.br; obtain⟨f0,f1,f2,f3,f4,f5,f6,f7⟩:=bx8' K9.br)
  | (go_at_call 148; (with_reducible refine (domain_any b n _ _ K1f.rd).mono ?_); rintro e w10 (⟨l,us10,_,x10,rfl,⟨k1,k2⟩,h10,o10⟩ | ⟨p,er,x10,rfl,o10⟩); have I10:=K1f.call h10 o10; obtain⟨A,c,rfl⟩:=k1.form; have K10:=I10.dom _ l k1 (k2.mono fun b hb=>Nat.lt_of_lt_of_le hb K1f.big); have qs:=(bx8 I10.bx).2.2.2.1; have fs:=(bx8' I10.bx).2.2.2.1)
  | (go_at_call 98; (with_reducible refine (follow1 (K10.rd) (by simp[World.setCell]) _ _).mono ?_); rintro e w11 (⟨_,us11,_,x11,rfl,rfl,h11,o11⟩ | ⟨p,er,x11,rfl,o11⟩); have I11:=K10.call h11 o11)
  | (go_at_call 149; (with_reducible refine (name_any b n _ _ I11.rd).mono ?_); rintro e w12 (⟨s,us12,_,x12,rfl,rfl,h12,o12⟩ | ⟨p,er,x12,rfl,o12⟩); have I12:=I11.call h12 o12; have K12:=I12.name s; have qs:=(bx8 I12.bx).2.1; have fs:=(bx8' I12.bx).2.1)
  | (go_at_call 147; (with_reducible refine (skip_any b n _ _ _ K12.rd).mono ?_); rintro e w13 (⟨z13,us13,_,x13,rfl,rfl,h13,o13⟩ | ⟨p,er,x13,rfl,o13⟩); have I13:=K12.call h13 o13; have qs:=(bx8 I13.bx).2.2.2.2.2.1; have fs:=(bx8' I13.bx).2.2.2.2.2.1; have K13t:=I13.out true; have K13f:=I13.out false; have la:=(bx8 K13t.bx).2.2.2.2.2.1; have lb:=(bx8 K13f.bx).2.2.2.2.2.1; cases z13)
  | (go_at_call 98; (with_reducible refine (follow1 (K13t.rd) (by simp[World.setCell]) _ _).mono ?_); rintro e w14 (⟨_,us14,_,x14,rfl,rfl,h14,o14⟩ | ⟨p,er,x14,rfl,o14⟩); have I14:=K13t.call h14 o14)
  | (go_at_call 147; (with_reducible refine (skip_any b n _ _ _ I14.rd).mono ?_); rintro e w15 (⟨z15,us15,_,x15,rfl,rfl,h15,o15⟩ | ⟨p,er,x15,rfl,o15⟩); have I15:=I14.call h15 o15; obtain⟨q0,q1,q2,q3,q4,q5,q6,q7⟩:=bx8 I15.bx; obtain⟨e0,e1,e2,e3,e4,e5,e6,e7⟩:=bx8 I15.br; obtain⟨f0,f1,f2,f3,f4,f5,f6,f7⟩:=bx8' I15.br; cases z15)
  | (go_at_call 150; (with_reducible refine (plain_any b n _ _ I15.rd).mono ?_); rintro e w16 (⟨p,us16,_,x16,rfl,rfl,h16,o16⟩ | ⟨p,er,x16,rfl,o16⟩); have I16:=I15.call h16 o16; have J16:=I16.alloc (.cells #[.int .i64 p.k,.int .i64 p.n,.string p.s,.slice none 0 0] 93); have qs:=(bx8 J16.bx).2.2.2.2.2.2.1; have fs:=(bx8' J16.bx).2.2.2.2.2.2.1; have K16:=I16.one p 93; obtain⟨q0,q1,q2,q3,q4,q5,q6,q7⟩:=bx8 K16.bx; obtain⟨e0,e1,e2,e3,e4,e5,e6,e7⟩:=bx8 K16.br; obtain⟨f0,f1,f2,f3,f4,f5,f6,f7⟩:=bx8' K16.br)
  | (go_at_call 147; (with_reducible refine (skip_any b n _ _ _ K13f.rd).mono ?_); rintro e w17 (⟨z17,us17,_,x17,rfl,rfl,h17,o17⟩ | ⟨p,er,x17,rfl,o17⟩); have I17:=K13f.call h17 o17; obtain⟨q0,q1,q2,q3,q4,q5,q6,q7⟩:=bx8 I17.bx; obtain⟨e0,e1,e2,e3,e4,e5,e6,e7⟩:=bx8 I17.br; obtain⟨f0,f1,f2,f3,f4,f5,f6,f7⟩:=bx8' I17.br; cases z17)
  | (go_at_call 150; (with_reducible refine (plain_any b n _ _ I17.rd).mono ?_); rintro e w18 (⟨p,us18,_,x18,rfl,rfl,h18,o18⟩ | ⟨p,er,x18,rfl,o18⟩); have I18:=I17.call h18 o18; have J18:=I18.alloc (.cells #[.int .i64 p.k,.int .i64 p.n,.string p.s,.slice none 0 0] 93); have qs:=(bx8 J18.bx).2.2.2.2.2.2.1; have fs:=(bx8' J18.bx).2.2.2.2.2.2.1; have K18:=I18.one p 93; obtain⟨q0,q1,q2,q3,q4,q5,q6,q7⟩:=bx8 K18.bx; obtain⟨e0,e1,e2,e3,e4,e5,e6,e7⟩:=bx8 K18.br; obtain⟨f0,f1,f2,f3,f4,f5,f6,f7⟩:=bx8' K18.br))
 all_goals first
  | (obtain⟨⟨p0,p1,p2,p3,p4,p5,p6,p7⟩,g1,g2,g3⟩:=K16.got; unfold put8 put4 at p0 p1 p2 p3 p4 p5 p6 p7; refine bodyPost_ret ?_ rfl (.inl ⟨⟨2,_,false,l,0,true,[p.xp],0⟩,us16,_,by rw[HR.out]; simp only[varD,bnd,R.bind,ret,Bool.false_eq_true,if_false,if_true,x1,x10,x11,x12,x13,x14,x15,x16],rfl,g3,g1,g2⟩); simp[results,Tryz.results126,go_sem,p0,p1,p2,p3,p4,p5,p6,p7])
  | (obtain⟨⟨p0,p1,p2,p3,p4,p5,p6,p7⟩,g1,g2,g3⟩:=K7.got; unfold put8 put4 at p0 p1 p2 p3 p4 p5 p6 p7; refine bodyPost_ret ?_ rfl (.inl ⟨⟨2,_,true,[],0,true,[p.xp],0⟩,us7,_,by rw[HR.out]; simp only[varD,bnd,R.bind,ret,Bool.false_eq_true,if_false,if_true,x1,x2,x3,x4,x5,x6,x7],rfl,g3,g1,g2⟩); simp[results,Tryz.results126,go_sem,p0,p1,p2,p3,p4,p5,p6,p7])
  | (obtain⟨⟨p0,p1,p2,p3,p4,p5,p6,p7⟩,g1,g2,g3⟩:=I15.got; unfold put8 put4 at p0 p1 p2 p3 p4 p5 p6 p7; refine bodyPost_ret ?_ rfl (.inl ⟨⟨2,_,false,l,0,true,[],0⟩,us15,_,by rw[HR.out]; simp only[varD,bnd,R.bind,ret,Bool.false_eq_true,if_false,if_true,x1,x10,x11,x12,x13,x14,x15],rfl,g3,g1,g2⟩); simp[results,Tryz.results126,go_sem,p0,p1,p2,p3,p4,p5,p6,p7])
  | (obtain⟨⟨p0,p1,p2,p3,p4,p5,p6,p7⟩,g1,g2,g3⟩:=K18.got; unfold put8 put4 at p0 p1 p2 p3 p4 p5 p6 p7; refine bodyPost_ret ?_ rfl (.inl ⟨⟨2,_,false,l,0,false,[p.xp],0⟩,us18,_,by rw[HR.out]; simp only[varD,bnd,R.bind,ret,Bool.false_eq_true,if_false,if_true,x1,x10,x11,x12,x13,x17,x18],rfl,g3,g1,g2⟩); simp[results,Tryz.results126,go_sem,p0,p1,p2,p3,p4,p5,p6,p7])
  | (obtain⟨⟨p0,p1,p2,p3,p4,p5,p6,p7⟩,g1,g2,g3⟩:=I6.got; unfold put8 put4 at p0 p1 p2 p3 p4 p5 p6 p7; refine bodyPost_ret ?_ rfl (.inl ⟨⟨2,_,true,[],0,true,[],0⟩,us6,_,by rw[HR.out]; simp only[varD,bnd,R.bind,ret,Bool.false_eq_true,if_false,if_true,x1,x2,x3,x4,x5,x6],rfl,g3,g1,g2⟩); simp[results,Tryz.results126,go_sem,p0,p1,p2,p3,p4,p5,p6,p7])
  | (obtain⟨⟨p0,p1,p2,p3,p4,p5,p6,p7⟩,g1,g2,g3⟩:=K9.got; unfold put8 put4 at p0 p1 p2 p3 p4 p5 p6 p7; refine bodyPost_ret ?_ rfl (.inl ⟨⟨2,_,true,[],0,false,[p.xp],0⟩,us9,_,by rw[HR.out]; simp only[varD,bnd,R.bind,ret,Bool.false_eq_true,if_false,if_true,x1,x2,x3,x4,x8,x9],rfl,g3,g1,g2⟩); simp[results,Tryz.results126,go_sem,p0,p1,p2,p3,p4,p5,p6,p7])
  | (obtain⟨⟨p0,p1,p2,p3,p4,p5,p6,p7⟩,g1,g2,g3⟩:=I17.got; unfold put8 put4 at p0 p1 p2 p3 p4 p5 p6 p7; refine bodyPost_ret ?_ rfl (.inl ⟨⟨2,_,false,l,0,false,[],0⟩,us17,_,by rw[HR.out]; simp only[varD,bnd,R.bind,ret,Bool.false_eq_true,if_false,if_true,x1,x10,x11,x12,x13,x17],rfl,g3,g1,g2⟩); simp[results,Tryz.results126,go_sem,p0,p1,p2,p3,p4,p5,p6,p7])
  | (obtain⟨⟨p0,p1,p2,p3,p4,p5,p6,p7⟩,g1,g2,g3⟩:=I8.got; unfold put8 put4 at p0 p1 p2 p3 p4 p5 p6 p7; refine bodyPost_ret ?_ rfl (.inl ⟨⟨2,_,true,[],0,false,[],0⟩,us8,_,by rw[HR.out]; simp only[varD,bnd,R.bind,ret,Bool.false_eq_true,if_false,if_true,x1,x2,x3,x4,x8],rfl,g3,g1,g2⟩); simp[results,Tryz.results126,go_sem,p0,p1,p2,p3,p4,p5,p6,p7])
  | (exact⟨rfl,.inr ⟨_,_,by rw[HR.out]; simp only[varD,bnd,R.bind,ret,Bool.false_eq_true,if_false,if_true,x1,x10,x11,x12,x13,x17,x18],rfl,(I17.only).trans o18⟩⟩)
  | (exact⟨rfl,.inr ⟨_,_,by rw[HR.out]; simp only[varD,bnd,R.bind,ret,Bool.false_eq_true,if_false,if_true,x1,x10,x11,x12,x13,x17],rfl,(K13f.only).trans o17⟩⟩)
  | (exact⟨rfl,.inr ⟨_,_,by rw[HR.out]; simp only[varD,bnd,R.bind,ret,Bool.false_eq_true,if_false,if_true,x1,x10,x11,x12,x13,x14,x15,x16],rfl,(I15.only).trans o16⟩⟩)
  | (exact⟨rfl,.inr ⟨_,_,by rw[HR.out]; simp only[varD,bnd,R.bind,ret,Bool.false_eq_true,if_false,if_true,x1,x10,x11,x12,x13,x14,x15],rfl,(I14.only).trans o15⟩⟩)
  | (exact⟨rfl,.inr ⟨_,_,by rw[HR.out]; simp only[varD,bnd,R.bind,ret,Bool.false_eq_true,if_false,if_true,x1,x10,x11,x12,x13,x14],rfl,(K13t.only).trans o14⟩⟩)
  | (exact⟨rfl,.inr ⟨_,_,by rw[HR.out]; simp only[varD,bnd,R.bind,ret,Bool.false_eq_true,if_false,if_true,x1,x10,x11,x12,x13],rfl,(K12.only).trans o13⟩⟩)
  | (exact⟨rfl,.inr ⟨_,_,by rw[HR.out]; simp only[varD,bnd,R.bind,ret,Bool.false_eq_true,if_false,if_true,x1,x10,x11,x12],rfl,(I11.only).trans o12⟩⟩)
  | (exact⟨rfl,.inr ⟨_,_,by rw[HR.out]; simp only[varD,bnd,R.bind,ret,Bool.false_eq_true,if_false,if_true,x1,x10,x11],rfl,(K10.only).trans o11⟩⟩)
  | (exact⟨rfl,.inr ⟨_,_,by rw[HR.out]; simp only[varD,bnd,R.bind,ret,Bool.false_eq_true,if_false,if_true,x1,x10],rfl,(K1f.only).trans o10⟩⟩)
  | (exact⟨rfl,.inr ⟨_,_,by rw[HR.out]; simp only[varD,bnd,R.bind,ret,Bool.false_eq_true,if_false,if_true,x1,x2,x3,x4,x8,x9],rfl,(I8.only).trans o9⟩⟩)
  | (exact⟨rfl,.inr ⟨_,_,by rw[HR.out]; simp only[varD,bnd,R.bind,ret,Bool.false_eq_true,if_false,if_true,x1,x2,x3,x4,x8],rfl,(K4f.only).trans o8⟩⟩)
  | (exact⟨rfl,.inr ⟨_,_,by rw[HR.out]; simp only[varD,bnd,R.bind,ret,Bool.false_eq_true,if_false,if_true,x1,x2,x3,x4,x5,x6,x7],rfl,(I6.only).trans o7⟩⟩)
  | (exact⟨rfl,.inr ⟨_,_,by rw[HR.out]; simp only[varD,bnd,R.bind,ret,Bool.false_eq_true,if_false,if_true,x1,x2,x3,x4,x5,x6],rfl,(I5.only).trans o6⟩⟩)
  | (exact⟨rfl,.inr ⟨_,_,by rw[HR.out]; simp only[varD,bnd,R.bind,ret,Bool.false_eq_true,if_false,if_true,x1,x2,x3,x4,x5],rfl,(K4t.only).trans o5⟩⟩)
  | (exact⟨rfl,.inr ⟨_,_,by rw[HR.out]; simp only[varD,bnd,R.bind,ret,Bool.false_eq_true,if_false,if_true,x1,x2,x3,x4],rfl,(K3.only).trans o4⟩⟩)
  | (exact⟨rfl,.inr ⟨_,_,by rw[HR.out]; simp only[varD,bnd,R.bind,ret,Bool.false_eq_true,if_false,if_true,x1,x2,x3],rfl,(I2.only).trans o3⟩⟩)
  | (exact⟨rfl,.inr ⟨_,_,by rw[HR.out]; simp only[varD,bnd,R.bind,ret,Bool.false_eq_true,if_false,if_true,x1,x2],rfl,(K1t.only).trans o2⟩⟩)
  | (exact⟨rfl,.inr ⟨_,_,by rw[HR.out]; simp only[varD,bnd,R.bind,ret,Bool.false_eq_true,if_false,if_true,x1],rfl,(I0.only).trans o1⟩⟩)
end Go.Proofs.YtjmmcnldfkjebaaGreatDoor.Prs
namespace Go.Proofs.YtjmmcnldfkjebaaGreatDoor.Prs
open Go.RowKit
set_option linter.unusedVariables false
set_option linter.unusedSimpArgs false
open Dig Lx Tk Ps Ti
def arrD:P It:=bnd spanD fun m=>bnd (takes [L ⟨#[111,102]⟩]) fun _=>bnd (skp (L ⟨#[118,97,114]⟩)) fun q=>bnd (one [L ⟨#[105,110,116]⟩,L ⟨#[98,111,111,108]⟩]) fun s=>bnd (takes [L ⟨#[58]⟩]) fun _=>bnd name fun x=>bnd (if q=true then skp (L ⟨#[58,58]⟩) else ret false) fun o =>
 bnd (if o=true then printedD m else ret ()) fun _=>bnd (takes [L ⟨#[61]⟩]) fun _=>bnd listD fun l=>ret ⟨if q=true then 4 else 3,x,s.toList == [98,111,111,108],[],m,o,l.map Pl.xp,0⟩
theorem slP {w:World} {v:Value} {l:List Pl} (G:Nat→Prop) (h:Sl 4 QP w v l):Sl 4 (QX G) w v (l.map Pl.xp):=by
 obtain⟨A,c,h1,h2,h3⟩:=h
 refine⟨A,c,by simpa using h1,by simpa using h2,fun hl => ?_⟩
 obtain⟨b,o,h4,h5⟩:=h3 (by simpa using hl)
 refine⟨b,o,h4,fun i x hx => ?_⟩
 rw[List.getElem?_map] at hx
 cases hp:l[i]? with
 | none=>rw[hp] at hx; cases hx
 | some p =>
  rw[hp] at hx
  simp only[Option.map_some,Option.some.injEq] at hx
  subst hx
  obtain⟨u,⟨A',c',h6⟩,h7,h8⟩:=h5 i p hp
  refine⟨u,⟨_,h6,⟨A',c',rfl,Nat.zero_le _,fun h=>absurd h (Nat.lt_irrefl 0)⟩,?_⟩,h7,h8⟩
  rintro b o n c e hn
  simp only[Value.slice.injEq] at e
  omega
theorem array_any (b:Nat) (n:Int) (ts:Ts) (w:World) (h:Rd b n ts w) :
 Calls Tryz.prog 127 #[.pointer (some ⟨b,0,none⟩)] w (Got (IV w) b n (arrD n ts) w):=by
 obtain⟨r,hr⟩:∃ r,r=arrD n ts:=⟨_,rfl⟩
 rw[← hr]
 have HR:=lH hr
 clear hr
 have hw0:=sA w (.cells Z8 TI)
 have h0:=h.since hw0
 have o0:=Only.of (b:=b) hw0
 have hlt:=h.lt
 have HZ:=lH (Bx.fresh w Z8 TI)
 go_enter Tryz.func127,Tryz.ntmps127
 go_wp2_with (first
  | (go_at_call 151; (with_reducible refine (span_any b n _ _ h0).mono ?_); rintro e w1 (⟨m,us1,_,x1,rfl,rfl,h1,o1⟩ | ⟨p,er,x1,rfl,o1⟩); have I1:=Itm.mid hlt h1 (o0.trans o1) (o1.bx HZ.out (Nat.ne_of_gt hlt)) (Nat.le_refl _) 3 ⟨#[]⟩ false m)
  | (go_at_call 98; (with_reducible refine (follow1 (I1.rd) (by simp[World.setCell]) _ _).mono ?_); rintro e w2 (⟨_,us2,_,x2,rfl,rfl,h2,o2⟩ | ⟨p,er,x2,rfl,o2⟩); have I2:=I1.call h2 o2)
  | (go_at_call 147; (with_reducible refine (skip_any b n _ _ _ I2.rd).mono ?_); rintro e w3 (⟨z3,us3,_,x3,rfl,rfl,h3,o3⟩ | ⟨p,er,x3,rfl,o3⟩); have I3:=I2.call h3 o3; have qs:=(bx8 I3.bx).1; have fs:=(bx8' I3.bx).1; have K3t:=I3.kind 4; have K3f:=I3; cases z3)
  | (go_at_call 96; (with_reducible refine (choose2 (K3t.rd) (by simp[World.setCell]) _ _ _).mono ?_); rintro e w4 (⟨s,us4,_,x4,rfl,rfl,h4,o4⟩ | ⟨p,er,x4,rfl,o4⟩); have I4:=K3t.call h4 o4; have K4:=I4.bool (s.toList == [98,111,111,108]); have qs:=(bx8 I4.bx).2.2.1; have fs:=(bx8' I4.bx).2.2.1)
  | (go_at_call 98; (with_reducible refine (follow1 (K4.rd) (by simp[World.setCell]) _ _).mono ?_); rintro e w5 (⟨_,us5,_,x5,rfl,rfl,h5,o5⟩ | ⟨p,er,x5,rfl,o5⟩); have I5:=K4.call h5 o5)
  | (go_at_call 149; (with_reducible refine (name_any b n _ _ I5.rd).mono ?_); rintro e w6 (⟨x,us6,_,x6,rfl,rfl,h6,o6⟩ | ⟨p,er,x6,rfl,o6⟩); have I6:=I5.call h6 o6; have K6:=I6.name x; have qs:=(bx8 I6.bx).2.1; have fs:=(bx8' I6.bx).2.1; have la:=(bx8 K6.bx).1)
  | (go_at_call 147; (with_reducible refine (skip_any b n _ _ _ K6.rd).mono ?_); rintro e w7 (⟨z7,us7,_,x7,rfl,rfl,h7,o7⟩ | ⟨p,er,x7,rfl,o7⟩); have I7:=K6.call h7 o7; have qs:=(bx8 I7.bx).2.2.2.2.2.1; have fs:=(bx8' I7.bx).2.2.2.2.2.1; have K7t:=I7.out true; have K7f:=I7.out false; have la:=(bx8 K7t.bx).2.2.2.2.2.1; have lb:=(bx8 K7f.bx).2.2.2.2.2.1; have lc:=(bx8 K7t.bx).2.2.2.2.1; cases z7)
  | (go_at_call 152; (with_reducible refine (printed_any b n m _ _ K7t.rd).mono ?_); rintro e w8 (⟨_,us8,_,x8,rfl,rfl,h8,o8⟩ | ⟨p,er,x8,rfl,o8⟩); have I8:=K7t.call h8 o8)
  | (go_at_call 98; (with_reducible refine (follow1 (I8.rd) (by simp[World.setCell]) _ _).mono ?_); rintro e w9 (⟨_,us9,_,x9,rfl,rfl,h9,o9⟩ | ⟨p,er,x9,rfl,o9⟩); have I9:=I8.call h9 o9)
  | (go_at_call 153; (with_reducible refine (list_any b n _ _ I9.rd).mono ?_); rintro e w10 (⟨l,us10,_,x10,rfl,⟨k1,k2⟩,h10,o10⟩ | ⟨p,er,x10,rfl,o10⟩); have I10:=I9.call h10 o10; obtain⟨A,c,rfl⟩:=k1.form; have K10:=I10.vals _ (l.map Pl.xp) (slP _ k1) (k2.mono fun b hb=>Nat.lt_of_lt_of_le hb I9.big); have qs:=(bx8 I10.bx).2.2.2.2.2.2.1; have fs:=(bx8' I10.bx).2.2.2.2.2.2.1; obtain⟨q0,q1,q2,q3,q4,q5,q6,q7⟩:=bx8 K10.bx; obtain⟨e0,e1,e2,e3,e4,e5,e6,e7⟩:=bx8 K10.br; obtain⟨f0,f1,f2,f3,f4,f5,f6,f7⟩:=bx8' K10.br)
  | (go_at_call 98; (with_reducible refine (follow1 (K7f.rd) (by simp[World.setCell]) _ _).mono ?_); rintro e w11 (⟨_,us11,_,x11,rfl,rfl,h11,o11⟩ | ⟨p,er,x11,rfl,o11⟩); have I11:=K7f.call h11 o11)
  | (go_at_call 153; (with_reducible refine (list_any b n _ _ I11.rd).mono ?_); rintro e w12 (⟨l,us12,_,x12,rfl,⟨k1,k2⟩,h12,o12⟩ | ⟨p,er,x12,rfl,o12⟩); have I12:=I11.call h12 o12; obtain⟨A,c,rfl⟩:=k1.form; have K12:=I12.vals _ (l.map Pl.xp) (slP _ k1) (k2.mono fun b hb=>Nat.lt_of_lt_of_le hb I11.big); have qs:=(bx8 I12.bx).2.2.2.2.2.2.1; have fs:=(bx8' I12.bx).2.2.2.2.2.2.1; obtain⟨q0,q1,q2,q3,q4,q5,q6,q7⟩:=bx8 K12.bx; obtain⟨e0,e1,e2,e3,e4,e5,e6,e7⟩:=bx8 K12.br; obtain⟨f0,f1,f2,f3,f4,f5,f6,f7⟩:=bx8' K12.br)
  | (go_at_call 96; (with_reducible refine (choose2 (K3f.rd) (by simp[World.setCell]) _ _ _).mono ?_); rintro e w13 (⟨s,us13,_,x13,rfl,rfl,h13,o13⟩ | ⟨p,er,x13,rfl,o13⟩); have I13:=K3f.call h13 o13; have K13:=I13.bool (s.toList == [98,111,111,108]); have qs:=(bx8 I13.bx).2.2.1; have fs:=(bx8' I13.bx).2.2.1)
  | (go_at_call 98; (with_reducible refine (follow1 (K13.rd) (by simp[World.setCell]) _ _).mono ?_); rintro e w14 (⟨_,us14,_,x14,rfl,rfl,h14,o14⟩ | ⟨p,er,x14,rfl,o14⟩); have I14:=K13.call h14 o14)
  | (go_at_call 149; (with_reducible refine (name_any b n _ _ I14.rd).mono ?_); rintro e w15 (⟨x,us15,_,x15,rfl,rfl,h15,o15⟩ | ⟨p,er,x15,rfl,o15⟩); have I15:=I14.call h15 o15; have K15:=I15.name x; have qs:=(bx8 I15.bx).2.1; have fs:=(bx8' I15.bx).2.1; have la:=(bx8 K15.bx).1; have qs5:=(bx8 K15.bx).2.2.2.2.2.1; have fs5:=(bx8' K15.bx).2.2.2.2.2.1; have K15f:=K15.out false; have lb:=(bx8 K15f.bx).2.2.2.2.2.1)
  | (go_at_call 98; (with_reducible refine (follow1 (K15f.rd) (by simp[World.setCell]) _ _).mono ?_); rintro e w16 (⟨_,us16,_,x16,rfl,rfl,h16,o16⟩ | ⟨p,er,x16,rfl,o16⟩); have I16:=K15f.call h16 o16)
  | (go_at_call 153; (with_reducible refine (list_any b n _ _ I16.rd).mono ?_); rintro e w17 (⟨l,us17,_,x17,rfl,⟨k1,k2⟩,h17,o17⟩ | ⟨p,er,x17,rfl,o17⟩); have I17:=I16.call h17 o17; obtain⟨A,c,rfl⟩:=k1.form; have K17:=I17.vals _ (l.map Pl.xp) (slP _ k1) (k2.mono fun b hb=>Nat.lt_of_lt_of_le hb I16.big); have qs:=(bx8 I17.bx).2.2.2.2.2.2.1; have fs:=(bx8' I17.bx).2.2.2.2.2.2.1; obtain⟨q0,q1,q2,q3,q4,q5,q6,q7⟩:=bx8 K17.bx; obtain⟨e0,e1,e2,e3,e4,e5,e6,e7⟩:=bx8 K17.br; obtain⟨f0,f1,f2,f3,f4,f5,f6,f7⟩:=bx8' K17.br))
 all_goals first
  | (obtain⟨⟨p0,p1,p2,p3,p4,p5,p6,p7⟩,g1,g2,g3⟩:=K10.got; unfold put8 put4 at p0 p1 p2 p3 p4 p5 p6 p7; refine bodyPost_ret ?_ rfl (.inl ⟨⟨4,_,_,[],m,true,l.map Pl.xp,0⟩,us10,_,by rw[HR.out]; simp only[arrD,bnd,R.bind,ret,Bool.false_eq_true,if_false,if_true,x1,x2,x3,x4,x5,x6,x7,x8,x9,x10],rfl,g3,g1,g2⟩); simp[results,Tryz.results127,go_sem,p0,p1,p2,p3,p4,p5,p6,p7])
  | (obtain⟨⟨p0,p1,p2,p3,p4,p5,p6,p7⟩,g1,g2,g3⟩:=K12.got; unfold put8 put4 at p0 p1 p2 p3 p4 p5 p6 p7; refine bodyPost_ret ?_ rfl (.inl ⟨⟨4,_,_,[],m,false,l.map Pl.xp,0⟩,us12,_,by rw[HR.out]; simp only[arrD,bnd,R.bind,ret,Bool.false_eq_true,if_false,if_true,x1,x2,x3,x4,x5,x6,x7,x11,x12],rfl,g3,g1,g2⟩); simp[results,Tryz.results127,go_sem,p0,p1,p2,p3,p4,p5,p6,p7])
  | (obtain⟨⟨p0,p1,p2,p3,p4,p5,p6,p7⟩,g1,g2,g3⟩:=K17.got; unfold put8 put4 at p0 p1 p2 p3 p4 p5 p6 p7; refine bodyPost_ret ?_ rfl (.inl ⟨⟨3,_,_,[],m,false,l.map Pl.xp,0⟩,us17,_,by rw[HR.out]; simp only[arrD,bnd,R.bind,ret,Bool.false_eq_true,if_false,if_true,x1,x2,x3,x13,x14,x15,x16,x17],rfl,g3,g1,g2⟩); simp[results,Tryz.results127,go_sem,p0,p1,p2,p3,p4,p5,p6,p7])
  | (exact⟨rfl,.inr ⟨_,_,by rw[HR.out]; simp only[arrD,bnd,R.bind,ret,Bool.false_eq_true,if_false,if_true,x1,x2,x3,x13,x14,x15,x16,x17],rfl,(I16.only).trans o17⟩⟩)
  | (exact⟨rfl,.inr ⟨_,_,by rw[HR.out]; simp only[arrD,bnd,R.bind,ret,Bool.false_eq_true,if_false,if_true,x1,x2,x3,x13,x14,x15,x16],rfl,(K15f.only).trans o16⟩⟩)
  | (exact⟨rfl,.inr ⟨_,_,by rw[HR.out]; simp only[arrD,bnd,R.bind,ret,Bool.false_eq_true,if_false,if_true,x1,x2,x3,x13,x14,x15],rfl,(I14.only).trans o15⟩⟩)
  | (exact⟨rfl,.inr ⟨_,_,by rw[HR.out]; simp only[arrD,bnd,R.bind,ret,Bool.false_eq_true,if_false,if_true,x1,x2,x3,x13,x14],rfl,(K13.only).trans o14⟩⟩)
  | (exact⟨rfl,.inr ⟨_,_,by rw[HR.out]; simp only[arrD,bnd,R.bind,ret,Bool.false_eq_true,if_false,if_true,x1,x2,x3,x13],rfl,(K3f.only).trans o13⟩⟩)
  | (exact⟨rfl,.inr ⟨_,_,by rw[HR.out]; simp only[arrD,bnd,R.bind,ret,Bool.false_eq_true,if_false,if_true,x1,x2,x3,x4,x5,x6,x7,x11,x12],rfl,(I11.only).trans o12⟩⟩)
  | (exact⟨rfl,.inr ⟨_,_,by rw[HR.out]; simp only[arrD,bnd,R.bind,ret,Bool.false_eq_true,if_false,if_true,x1,x2,x3,x4,x5,x6,x7,x11],rfl,(K7f.only).trans o11⟩⟩)
  | (exact⟨rfl,.inr ⟨_,_,by rw[HR.out]; simp only[arrD,bnd,R.bind,ret,Bool.false_eq_true,if_false,if_true,x1,x2,x3,x4,x5,x6,x7,x8,x9,x10],rfl,(I9.only).trans o10⟩⟩)
  | (exact⟨rfl,.inr ⟨_,_,by rw[HR.out]; simp only[arrD,bnd,R.bind,ret,Bool.false_eq_true,if_false,if_true,x1,x2,x3,x4,x5,x6,x7,x8,x9],rfl,(I8.only).trans o9⟩⟩)
  | (exact⟨rfl,.inr ⟨_,_,by rw[HR.out]; simp only[arrD,bnd,R.bind,ret,Bool.false_eq_true,if_false,if_true,x1,x2,x3,x4,x5,x6,x7,x8],rfl,(K7t.only).trans o8⟩⟩)
  | (exact⟨rfl,.inr ⟨_,_,by rw[HR.out]; simp only[arrD,bnd,R.bind,ret,Bool.false_eq_true,if_false,if_true,x1,x2,x3,x4,x5,x6,x7],rfl,(K6.only).trans o7⟩⟩)
  | (exact⟨rfl,.inr ⟨_,_,by rw[HR.out]; simp only[arrD,bnd,R.bind,ret,Bool.false_eq_true,if_false,if_true,x1,x2,x3,x4,x5,x6],rfl,(I5.only).trans o6⟩⟩)
  | (exact⟨rfl,.inr ⟨_,_,by rw[HR.out]; simp only[arrD,bnd,R.bind,ret,Bool.false_eq_true,if_false,if_true,x1,x2,x3,x4,x5],rfl,(K4.only).trans o5⟩⟩)
  | (exact⟨rfl,.inr ⟨_,_,by rw[HR.out]; simp only[arrD,bnd,R.bind,ret,Bool.false_eq_true,if_false,if_true,x1,x2,x3,x4],rfl,(K3t.only).trans o4⟩⟩)
  | (exact⟨rfl,.inr ⟨_,_,by rw[HR.out]; simp only[arrD,bnd,R.bind,ret,Bool.false_eq_true,if_false,if_true,x1,x2,x3],rfl,(I2.only).trans o3⟩⟩)
  | (exact⟨rfl,.inr ⟨_,_,by rw[HR.out]; simp only[arrD,bnd,R.bind,ret,Bool.false_eq_true,if_false,if_true,x1,x2],rfl,(I1.only).trans o2⟩⟩)
  | (exact⟨rfl,.inr ⟨_,_,by rw[HR.out]; simp only[arrD,bnd,R.bind,ret,Bool.false_eq_true,if_false,if_true,x1],rfl,(o0).trans o1⟩⟩)
end Go.Proofs.YtjmmcnldfkjebaaGreatDoor.Prs
namespace Go.Proofs.YtjmmcnldfkjebaaGreatDoor.Prs
open Go.RowKit
set_option linter.unusedVariables false
set_option linter.unusedSimpArgs false
open Dig Lx Tk Ps Ti
def itemD (c:ByteArray):P It:=if (c.toList == [118,97,114])=true then varD else if (c.toList == [97,114,114,97,121])=true then arrD else if (c.toList == [99,111,110,115,116,114,97,105,110,116])=true then conD else if (c.toList == [115,111,108,118,101])=true then reqD else parD (c.toList == [98,111,111,108])
abbrev P8 (W:World) (g:Nat) (x:It) (A1:Option Addr) (c1:Nat) (A2:Option Addr) (c2:Nat):World:=put8 W g (.int .i64 x.kind) (.string x.name) (.bool x.bool) (.slice A1 x.dom.length c1) (.int .i64 x.size) (.bool x.out) (.slice A2 x.vals.length c2) (.int .i64 x.ask)
theorem IV.got {b:Nat} {n:Int} {us:Ts} {w W:World} {x:It} {A1 A2:Option Addr} {c1 c2:Nat} (hlt:b<w.heap.size) (hr:Rd b n us W) (ho:Only b (w.alloc (.cells Z8 TI)) W) (hz:Bx W w.heap.size Z8 TI)
 (k1:Sl 2 QR W (.slice A1 x.dom.length c1) x.dom) (k2:FarO (Old (w.alloc (.cells Z8 TI))) (.slice A1 x.dom.length c1)) (k3:Sl 4 (QX (Old (w.alloc (.cells Z8 TI)))) W (.slice A2 x.vals.length c2) x.vals) (k4:FarO (Old (w.alloc (.cells Z8 TI))) (.slice A2 x.vals.length c2)) :
 ((P8 W w.heap.size x A1 c1 A2 c2).cell? ⟨w.heap.size,0,none⟩=some (.int .i64 x.kind)∧(P8 W w.heap.size x A1 c1 A2 c2).cell? ⟨w.heap.size,1,none⟩=some (.string x.name)∧(P8 W w.heap.size x A1 c1 A2 c2).cell? ⟨w.heap.size,2,none⟩=some (.bool x.bool)∧(P8 W w.heap.size x A1 c1 A2 c2).cell? ⟨w.heap.size,3,none⟩=some (.slice A1 x.dom.length c1) ∧
  (P8 W w.heap.size x A1 c1 A2 c2).cell? ⟨w.heap.size,4,none⟩=some (.int .i64 x.size)∧(P8 W w.heap.size x A1 c1 A2 c2).cell? ⟨w.heap.size,5,none⟩=some (.bool x.out)∧(P8 W w.heap.size x A1 c1 A2 c2).cell? ⟨w.heap.size,6,none⟩=some (.slice A2 x.vals.length c2)∧(P8 W w.heap.size x A1 c1 A2 c2).cell? ⟨w.heap.size,7,none⟩=some (.int .i64 x.ask)) ∧
 Rd b n us (P8 W w.heap.size x A1 c1 A2 c2)∧Only b w (P8 W w.heap.size x A1 c1 A2 c2) ∧
 IV w (P8 W w.heap.size x A1 c1 A2 c2) x (.agg #[.int .i64 x.kind,.string x.name,.bool x.bool,.slice A1 x.dom.length c1,.int .i64 x.size,.bool x.out,.slice A2 x.vals.length c2,.int .i64 x.ask]):=by
 have hB:=bx8 (bxput8 hz (.int .i64 x.kind) (.string x.name) (.bool x.bool) (.slice A1 x.dom.length c1) (.int .i64 x.size) (.bool x.out) (.slice A2 x.vals.length c2) (.int .i64 x.ask))
 have k:Only w.heap.size W (P8 W w.heap.size x A1 c1 A2 c2):=((((((((Only.refl _ _).set _).set _).set _).set _).set _).set _).set _).set _
 have hw:∀ g,g<w.heap.size→g<(w.alloc (.cells Z8 TI)).heap.size:=fun g hg=>by simp; omega
 have hg:w.heap.size<(w.alloc (.cells Z8 TI)).heap.size:=by simp
 refine⟨hB,(((((((hr.other _ hlt).other _ hlt).other _ hlt).other _ hlt).other _ hlt).other _ hlt).other _ hlt).other _ hlt,((Only.of (sA _ _)).trans ho).new k (Nat.le_refl _),A1,c1,A2,c2,rfl,?_⟩
 exact⟨keepR k1 k hg k2,k2.mono hw,(keepX k3 k hg k4).mono (fun x u=>QX.less (fun b hb => .inl (hw b hb))),k4.mono hw⟩
theorem item_any (b:Nat) (n:Int) (c:ByteArray) (ts:Ts) (w:World) (h:Rd b n ts w) :
 Calls Tryz.prog 97 #[.pointer (some ⟨b,0,none⟩),.string c] w (Got (IV w) b n (itemD c n ts) w):=by
 have hw0:=sA w (.cells Z8 TI)
 have h0:=h.since hw0
 have o0:=Only.of (b:=b) hw0
 have hlt:=h.lt
 have HZ:=lH (Bx.fresh w Z8 TI)
 by_cases y0:(c.toList == [118,97,114])=true
 · rw[show itemD c=varD by simp only[itemD,y0,Bool.false_eq_true,if_false,if_true]]
   obtain⟨r,hr⟩:∃ r,r=varD n ts:=⟨_,rfl⟩
   rw[← hr]
   have HR:=lH hr
   clear hr
   go_enter Tryz.func97,Tryz.ntmps97
   go_wp2_with (first | (go_at_call 126; (with_reducible refine (variable_any b n _ _ h0).mono ?_); rintro e w1 (⟨x,us1,_,x1,rfl,⟨A1,c1,A2,c2,rfl,k1,k2,k3,k4⟩,h1,o1⟩ | ⟨p,er,x1,rfl,o1⟩); obtain⟨e0,e1,e2,e3,e4,e5,e6,e7⟩:=bx8 (o1.bx HZ.out (Nat.ne_of_gt hlt)); obtain⟨f0,f1,f2,f3,f4,f5,f6,f7⟩:=bx8' (o1.bx HZ.out (Nat.ne_of_gt hlt))))
   case inr=>exact⟨rfl,.inr ⟨_,_,HR.out.trans x1,rfl,o0.trans o1⟩⟩
   obtain⟨⟨p0,p1,p2,p3,p4,p5,p6,p7⟩,g1,g2,g3⟩:=IV.got hlt h1 o1 (o1.bx HZ.out (Nat.ne_of_gt hlt)) k1 k2 k3 k4
   unfold P8 put8 put4 at p0 p1 p2 p3 p4 p5 p6 p7
   refine bodyPost_ret ?_ rfl (.inl ⟨x,us1,_,HR.out.trans x1,rfl,g3,g1,g2⟩)
   simp[results,Tryz.results97,go_sem,p0,p1,p2,p3,p4,p5,p6,p7]
 replace y0:(c.toList == [118,97,114])=false:=by simpa using y0
 by_cases y1:(c.toList == [97,114,114,97,121])=true
 · rw[show itemD c=arrD by simp only[itemD,y0,y1,Bool.false_eq_true,if_false,if_true]]
   obtain⟨r,hr⟩:∃ r,r=arrD n ts:=⟨_,rfl⟩
   rw[← hr]
   have HR:=lH hr
   clear hr
   go_enter Tryz.func97,Tryz.ntmps97
   go_wp2_with (first | (go_at_call 127; (with_reducible refine (array_any b n _ _ h0).mono ?_); rintro e w1 (⟨x,us1,_,x1,rfl,⟨A1,c1,A2,c2,rfl,k1,k2,k3,k4⟩,h1,o1⟩ | ⟨p,er,x1,rfl,o1⟩); obtain⟨e0,e1,e2,e3,e4,e5,e6,e7⟩:=bx8 (o1.bx HZ.out (Nat.ne_of_gt hlt)); obtain⟨f0,f1,f2,f3,f4,f5,f6,f7⟩:=bx8' (o1.bx HZ.out (Nat.ne_of_gt hlt))))
   case inr=>exact⟨rfl,.inr ⟨_,_,HR.out.trans x1,rfl,o0.trans o1⟩⟩
   obtain⟨⟨p0,p1,p2,p3,p4,p5,p6,p7⟩,g1,g2,g3⟩:=IV.got hlt h1 o1 (o1.bx HZ.out (Nat.ne_of_gt hlt)) k1 k2 k3 k4
   unfold P8 put8 put4 at p0 p1 p2 p3 p4 p5 p6 p7
   refine bodyPost_ret ?_ rfl (.inl ⟨x,us1,_,HR.out.trans x1,rfl,g3,g1,g2⟩)
   simp[results,Tryz.results97,go_sem,p0,p1,p2,p3,p4,p5,p6,p7]
 replace y1:(c.toList == [97,114,114,97,121])=false:=by simpa using y1
 by_cases y2:(c.toList == [99,111,110,115,116,114,97,105,110,116])=true
 · rw[show itemD c=conD by simp only[itemD,y0,y1,y2,Bool.false_eq_true,if_false,if_true]]
   obtain⟨r,hr⟩:∃ r,r=conD n ts:=⟨_,rfl⟩
   rw[← hr]
   have HR:=lH hr
   clear hr
   go_enter Tryz.func97,Tryz.ntmps97
   go_wp2_with (first | (go_at_call 128; (with_reducible refine (constraint_any b n _ _ h0).mono ?_); rintro e w1 (⟨x,us1,_,x1,rfl,⟨A1,c1,A2,c2,rfl,k1,k2,k3,k4⟩,h1,o1⟩ | ⟨p,er,x1,rfl,o1⟩); obtain⟨e0,e1,e2,e3,e4,e5,e6,e7⟩:=bx8 (o1.bx HZ.out (Nat.ne_of_gt hlt)); obtain⟨f0,f1,f2,f3,f4,f5,f6,f7⟩:=bx8' (o1.bx HZ.out (Nat.ne_of_gt hlt))))
   case inr=>exact⟨rfl,.inr ⟨_,_,HR.out.trans x1,rfl,o0.trans o1⟩⟩
   obtain⟨⟨p0,p1,p2,p3,p4,p5,p6,p7⟩,g1,g2,g3⟩:=IV.got hlt h1 o1 (o1.bx HZ.out (Nat.ne_of_gt hlt)) k1 k2 k3 k4
   unfold P8 put8 put4 at p0 p1 p2 p3 p4 p5 p6 p7
   refine bodyPost_ret ?_ rfl (.inl ⟨x,us1,_,HR.out.trans x1,rfl,g3,g1,g2⟩)
   simp[results,Tryz.results97,go_sem,p0,p1,p2,p3,p4,p5,p6,p7]
 replace y2:(c.toList == [99,111,110,115,116,114,97,105,110,116])=false:=by simpa using y2
 by_cases y3:(c.toList == [115,111,108,118,101])=true
 · rw[show itemD c=reqD by simp only[itemD,y0,y1,y2,y3,Bool.false_eq_true,if_false,if_true]]
   obtain⟨r,hr⟩:∃ r,r=reqD n ts:=⟨_,rfl⟩
   rw[← hr]
   have HR:=lH hr
   clear hr
   go_enter Tryz.func97,Tryz.ntmps97
   go_wp2_with (first | (go_at_call 129; (with_reducible refine (request_any b n _ _ h0).mono ?_); rintro e w1 (⟨x,us1,_,x1,rfl,⟨A1,c1,A2,c2,rfl,k1,k2,k3,k4⟩,h1,o1⟩ | ⟨p,er,x1,rfl,o1⟩); obtain⟨e0,e1,e2,e3,e4,e5,e6,e7⟩:=bx8 (o1.bx HZ.out (Nat.ne_of_gt hlt)); obtain⟨f0,f1,f2,f3,f4,f5,f6,f7⟩:=bx8' (o1.bx HZ.out (Nat.ne_of_gt hlt))))
   case inr=>exact⟨rfl,.inr ⟨_,_,HR.out.trans x1,rfl,o0.trans o1⟩⟩
   obtain⟨⟨p0,p1,p2,p3,p4,p5,p6,p7⟩,g1,g2,g3⟩:=IV.got hlt h1 o1 (o1.bx HZ.out (Nat.ne_of_gt hlt)) k1 k2 k3 k4
   unfold P8 put8 put4 at p0 p1 p2 p3 p4 p5 p6 p7
   refine bodyPost_ret ?_ rfl (.inl ⟨x,us1,_,HR.out.trans x1,rfl,g3,g1,g2⟩)
   simp[results,Tryz.results97,go_sem,p0,p1,p2,p3,p4,p5,p6,p7]
 replace y3:(c.toList == [115,111,108,118,101])=false:=by simpa using y3
 rw[show itemD c=parD (c.toList == [98,111,111,108]) by simp only[itemD,y0,y1,y2,y3,Bool.false_eq_true,if_false]]
 obtain⟨r,hr⟩:∃ r,r=parD (c.toList == [98,111,111,108]) n ts:=⟨_,rfl⟩
 rw[← hr]
 have HR:=lH hr
 clear hr
 go_enter Tryz.func97,Tryz.ntmps97
 go_wp2_with (first | (go_at_call 130; (with_reducible refine (parameter_any b n _ _ _ h0).mono ?_); rintro e w1 (⟨x,us1,_,x1,rfl,⟨A1,c1,A2,c2,rfl,k1,k2,k3,k4⟩,h1,o1⟩ | ⟨p,er,x1,rfl,o1⟩); obtain⟨e0,e1,e2,e3,e4,e5,e6,e7⟩:=bx8 (o1.bx HZ.out (Nat.ne_of_gt hlt)); obtain⟨f0,f1,f2,f3,f4,f5,f6,f7⟩:=bx8' (o1.bx HZ.out (Nat.ne_of_gt hlt))))
 case inr=>exact⟨rfl,.inr ⟨_,_,HR.out.trans x1,rfl,o0.trans o1⟩⟩
 obtain⟨⟨p0,p1,p2,p3,p4,p5,p6,p7⟩,g1,g2,g3⟩:=IV.got hlt h1 o1 (o1.bx HZ.out (Nat.ne_of_gt hlt)) k1 k2 k3 k4
 unfold P8 put8 put4 at p0 p1 p2 p3 p4 p5 p6 p7
 refine bodyPost_ret ?_ rfl (.inl ⟨x,us1,_,HR.out.trans x1,rfl,g3,g1,g2⟩)
 simp[results,Tryz.results97,go_sem,p0,p1,p2,p3,p4,p5,p6,p7]
end Go.Proofs.YtjmmcnldfkjebaaGreatDoor.Prs
