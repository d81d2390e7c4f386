/- What the landed parser's span, printed, single and constant give back. What the landed parser's series gives b -/
import Derived.Maps.AppendAt
import Derived.Test.YtjmmcnldfkjebaaGreatDoorUa
set_option maxHeartbeats 4000000
set_option maxRecDepth 20000
namespace Go.Proofs.YtjmmcnldfkjebaaGreatDoor.Prs
open Go.RowKit
set_option linter.unusedVariables false
set_option linter.unusedSimpArgs false
open Dig Lx Tk Ps Ti
/-! texts that a call lays new -/
theorem Strs.new (w:World) (ss:List ByteArray) (t:TypeId):Strs (w.alloc (.cells (ss.map Value.string).toArray t)) w.heap.size ss:=fun k s hs=>by
 have h:=cell_new w (ss.map Value.string).toArray t rfl (j:=k) (u:=.string s) (by simp[hs])
 rwa [add_at,Nat.zero_add] at h
theorem Got.new {α:Type} {V:World→α→Value→Prop} {b:Nat} {n:Int} {x:R α} {w w1:World} {e:Ending} {w':World} (k:Only b w w1) (h:Got V b n x w1 e w'):Got V b n x w e w':=by
 rcases h with ⟨a,r,v,h1,h2,h3,h4,h5⟩ | ⟨p,er,h1,h2,h3⟩
 · exact .inl ⟨a,r,v,h1,h2,h3,h4,k.trans h5⟩
 · exact .inr ⟨p,er,h1,h2,k.trans h3⟩
theorem follow_new {b:Nat} {n:Int} {ts:Ts} {w:World} (h:Rd b n ts w) (ss:List ByteArray) (t:TypeId) (m:Nat) (hm:ss.length=m) (hm2:m≤10) :
 Calls Tryz.prog 98 #[.pointer (some ⟨b,0,none⟩),.slice (some ⟨w.heap.size,0,none⟩) m m] (w.alloc (.cells (ss.map Value.string).toArray t)) (Got (fun w' _ v=>v = .tuple #[]) b n (takes (ss.map L) n ts) w):=
 (follow_any b n ts w.heap.size m ss _ (h.since (sA _ _)) (Strs.new w ss t) (Nat.ne_of_gt h.lt) hm hm2).mono fun _ _ k=>k.new (.of (sA _ _))
theorem choose_new {b:Nat} {n:Int} {ts:Ts} {w:World} (h:Rd b n ts w) (ss:List ByteArray) (t:TypeId) (m:Nat) (hm:ss.length=m) (hm2:m≤10) :
 Calls Tryz.prog 96 #[.pointer (some ⟨b,0,none⟩),.slice (some ⟨w.heap.size,0,none⟩) m m] (w.alloc (.cells (ss.map Value.string).toArray t)) (Got (fun w' s v=>v = .string s) b n (one (ss.map L) n ts) w):=
 (choose_any b n ts w.heap.size m ss _ (h.since (sA _ _)) (Strs.new w ss t) (Nat.ne_of_gt h.lt) hm hm2).mono fun _ _ k=>k.new (.of (sA _ _))
theorem follow1 {b g:Nat} {n:Int} {ts:Ts} {w:World} (h:Rd b n ts w) (hg:g=w.heap.size) (t:TypeId) (x:ByteArray):Calls Tryz.prog 98 #[.pointer (some ⟨b,0,none⟩),.slice (some ⟨g,0,none⟩) 1 1] (w.alloc (.cells #[.string x] t)) (Got (fun w' _ v=>v = .tuple #[]) b n (takes [L x] n ts) w):=hg ▸ follow_new h [x] t 1 rfl (by decide)
theorem follow2 {b g:Nat} {n:Int} {ts:Ts} {w:World} (h:Rd b n ts w) (hg:g=w.heap.size) (t:TypeId) (x y:ByteArray):Calls Tryz.prog 98 #[.pointer (some ⟨b,0,none⟩),.slice (some ⟨g,0,none⟩) 2 2] (w.alloc (.cells #[.string x,.string y] t)) (Got (fun w' _ v=>v = .tuple #[]) b n (takes [L x,L y] n ts) w):=hg ▸ follow_new h [x,y] t 2 rfl (by decide)
theorem follow3 {b g:Nat} {n:Int} {ts:Ts} {w:World} (h:Rd b n ts w) (hg:g=w.heap.size) (t:TypeId) (x y z:ByteArray):Calls Tryz.prog 98 #[.pointer (some ⟨b,0,none⟩),.slice (some ⟨g,0,none⟩) 3 3] (w.alloc (.cells #[.string x,.string y,.string z] t)) (Got (fun w' _ v=>v = .tuple #[]) b n (takes [L x,L y,L z] n ts) w):=hg ▸ follow_new h [x,y,z] t 3 rfl (by decide)
theorem choose2 {b g:Nat} {n:Int} {ts:Ts} {w:World} (h:Rd b n ts w) (hg:g=w.heap.size) (t:TypeId) (x y:ByteArray):Calls Tryz.prog 96 #[.pointer (some ⟨b,0,none⟩),.slice (some ⟨g,0,none⟩) 2 2] (w.alloc (.cells #[.string x,.string y] t)) (Got (fun w' s v=>v = .string s) b n (one [L x,L y] n ts) w):=hg ▸ choose_new h [x,y] t 2 rfl (by decide)
theorem choose3 {b g:Nat} {n:Int} {ts:Ts} {w:World} (h:Rd b n ts w) (hg:g=w.heap.size) (t:TypeId) (x y z:ByteArray):Calls Tryz.prog 96 #[.pointer (some ⟨b,0,none⟩),.slice (some ⟨g,0,none⟩) 3 3] (w.alloc (.cells #[.string x,.string y,.string z] t)) (Got (fun w' s v=>v = .string s) b n (one [L x,L y,L z] n ts) w):=hg ▸ choose_new h [x,y,z] t 3 rfl (by decide)
theorem choose6 {b g:Nat} {n:Int} {ts:Ts} {w:World} (h:Rd b n ts w) (hg:g=w.heap.size) (t:TypeId) (x y z u v p:ByteArray):Calls Tryz.prog 96 #[.pointer (some ⟨b,0,none⟩),.slice (some ⟨g,0,none⟩) 6 6] (w.alloc (.cells #[.string x,.string y,.string z,.string u,.string v,.string p] t)) (Got (fun w' s v=>v = .string s) b n (one [L x,L y,L z,L u,L v,L p] n ts) w):=hg ▸ choose_new h [x,y,z,u,v,p] t 6 rfl (by decide)
def spanD:P Int:=bnd (takes [L ⟨#[91]⟩]) fun _=>bnd (exact 1) fun _=>bnd (takes [L ⟨#[46,46]⟩]) fun _=>bnd integer fun m=>bnd (takes [L ⟨#[93]⟩]) fun _=>ret m
theorem span_any (b:Nat) (n:Int) (ts:Ts) (w:World) (h0:Rd b n ts w) :
 Calls Tryz.prog 151 #[.pointer (some ⟨b,0,none⟩)] w (Got (fun w' i v=>v = .int .i64 i) b n (spanD n ts) w):=by
 obtain⟨r,hr⟩:∃ r,r=spanD n ts:=⟨_,rfl⟩
 rw[← hr]
 have HR:=lH hr
 clear hr
 go_enter Tryz.func151,Tryz.ntmps151
 go_wp2_with (first
  | (go_at_call 98; (with_reducible refine (follow1 h0 (by simp[World.setCell]) _ _).mono ?_); rintro e w1 (⟨_,us1,_,x1,rfl,rfl,h1,o1⟩ | ⟨p,er,x1,rfl,o1⟩))
  | (go_at_call 167; (with_reducible refine (exactly_any b n 1 _ _ h1).mono ?_); rintro e w2 (⟨_,us2,_,x2,rfl,rfl,h2,o2⟩ | ⟨p,er,x2,rfl,o2⟩))
  | (go_at_call 98; (with_reducible refine (follow1 h2 (by simp[World.setCell]) _ _).mono ?_); rintro e w3 (⟨_,us3,_,x3,rfl,rfl,h3,o3⟩ | ⟨p,er,x3,rfl,o3⟩))
  | (go_at_call 165; (with_reducible refine (number_any b n _ _ h3).mono ?_); rintro e w4 (⟨m,us4,_,x4,rfl,rfl,h4,o4⟩ | ⟨p,er,x4,rfl,o4⟩))
  | (go_at_call 98; (with_reducible refine (follow1 h4 (by simp[World.setCell]) _ _).mono ?_); rintro e w5 (⟨_,us5,_,x5,rfl,rfl,h5,o5⟩ | ⟨p,er,x5,rfl,o5⟩)))
 all_goals first
  | (go_ret; exact .inl ⟨m,us5,_,by rw[HR.out]; simp only[spanD,bnd,R.bind,ret,x1,x2,x3,x4,x5],rfl,rfl,h5,o1.trans (o2.trans (o3.trans (o4.trans (o5))))⟩)
  | (exact⟨rfl,.inr ⟨_,_,by rw[HR.out]; simp only[spanD,bnd,R.bind,x1,x2,x3,x4,x5],rfl,o1.trans (o2.trans (o3.trans (o4.trans (o5))))⟩⟩)
  | (exact⟨rfl,.inr ⟨_,_,by rw[HR.out]; simp only[spanD,bnd,R.bind,x1,x2,x3,x4],rfl,o1.trans (o2.trans (o3.trans (o4)))⟩⟩)
  | (exact⟨rfl,.inr ⟨_,_,by rw[HR.out]; simp only[spanD,bnd,R.bind,x1,x2,x3],rfl,o1.trans (o2.trans (o3))⟩⟩)
  | (exact⟨rfl,.inr ⟨_,_,by rw[HR.out]; simp only[spanD,bnd,R.bind,x1,x2],rfl,o1.trans (o2)⟩⟩)
  | (exact⟨rfl,.inr ⟨_,_,by rw[HR.out]; simp only[spanD,bnd,R.bind,x1],rfl,o1⟩⟩)
def printedD (m:Int):P Unit:=bnd (takes [L ⟨#[111,117,116,112,117,116,95,97,114,114,97,121]⟩,L ⟨#[40]⟩,L ⟨#[91]⟩]) fun _=>bnd (exact 1) fun _=>bnd (takes [L ⟨#[46,46]⟩]) fun _=>bnd (exact m) fun _=>takes [L ⟨#[93]⟩,L ⟨#[41]⟩]
theorem printed_any (b:Nat) (n m:Int) (ts:Ts) (w:World) (h0:Rd b n ts w) :
 Calls Tryz.prog 152 #[.pointer (some ⟨b,0,none⟩),.int .i64 m] w (Got (fun w' _ v=>v = .tuple #[]) b n (printedD m n ts) w):=by
 obtain⟨r,hr⟩:∃ r,r=printedD m n ts:=⟨_,rfl⟩
 rw[← hr]
 have HR:=lH hr
 clear hr
 go_enter Tryz.func152,Tryz.ntmps152
 go_wp2_with (first
  | (go_at_call 98; (with_reducible refine (follow3 h0 (by simp[World.setCell]) _ _ _ _).mono ?_); rintro e w1 (⟨_,us1,_,x1,rfl,rfl,h1,o1⟩ | ⟨p,er,x1,rfl,o1⟩))
  | (go_at_call 167; (with_reducible refine (exactly_any b n 1 _ _ h1).mono ?_); rintro e w2 (⟨_,us2,_,x2,rfl,rfl,h2,o2⟩ | ⟨p,er,x2,rfl,o2⟩))
  | (go_at_call 98; (with_reducible refine (follow1 h2 (by simp[World.setCell]) _ _).mono ?_); rintro e w3 (⟨_,us3,_,x3,rfl,rfl,h3,o3⟩ | ⟨p,er,x3,rfl,o3⟩))
  | (go_at_call 167; (with_reducible refine (exactly_any b n m _ _ h3).mono ?_); rintro e w4 (⟨_,us4,_,x4,rfl,rfl,h4,o4⟩ | ⟨p,er,x4,rfl,o4⟩))
  | (go_at_call 98; (with_reducible refine (follow2 h4 (by simp[World.setCell]) _ _ _).mono ?_); rintro e w5 (⟨_,us5,_,x5,rfl,rfl,h5,o5⟩ | ⟨p,er,x5,rfl,o5⟩)))
 all_goals first
  | (go_end0; exact .inl ⟨(),us5,_,by rw[HR.out]; simp only[printedD,bnd,R.bind,ret,x1,x2,x3,x4,x5],rfl,rfl,h5,o1.trans (o2.trans (o3.trans (o4.trans (o5))))⟩)
  | (exact⟨rfl,.inr ⟨_,_,by rw[HR.out]; simp only[printedD,bnd,R.bind,x1,x2,x3,x4,x5],rfl,o1.trans (o2.trans (o3.trans (o4.trans (o5))))⟩⟩)
  | (exact⟨rfl,.inr ⟨_,_,by rw[HR.out]; simp only[printedD,bnd,R.bind,x1,x2,x3,x4],rfl,o1.trans (o2.trans (o3.trans (o4)))⟩⟩)
  | (exact⟨rfl,.inr ⟨_,_,by rw[HR.out]; simp only[printedD,bnd,R.bind,x1,x2,x3],rfl,o1.trans (o2.trans (o3))⟩⟩)
  | (exact⟨rfl,.inr ⟨_,_,by rw[HR.out]; simp only[printedD,bnd,R.bind,x1,x2],rfl,o1.trans (o2)⟩⟩)
  | (exact⟨rfl,.inr ⟨_,_,by rw[HR.out]; simp only[printedD,bnd,R.bind,x1],rfl,o1⟩⟩)
def singleD:P (Int × Int):=bnd integer fun i=>ret (i,i)
theorem cell2 {b g:Nat} {w w1:World} {t:TypeId} {u0 u1:Value} {cs:Array Value} (k:Only b w w1) (hg:w.heap.size≤g) {n:Int} {r:Ts} (hr:Rd b n r w1) (hb:b<g) :
 Only b w (put2 w1 g u0 u1)∧Rd b n r (put2 w1 g u0 u1):=
 ⟨((k.new (Only.set (b:=g) (Only.refl _ _) _) hg).new (Only.set (b:=g) (Only.refl _ _) _) hg),(hr.other _ hb).other _ hb⟩
theorem single_any (b:Nat) (n:Int) (ts:Ts) (w:World) (h:Rd b n ts w) :
 Calls Tryz.prog 164 #[.pointer (some ⟨b,0,none⟩)] w (Got (fun w' (x:Int × Int) v=>v = .agg #[.int .i64 x.1,.int .i64 x.2]) b n (singleD n ts) w):=by
 obtain⟨r,hr⟩:∃ r,r=singleD n ts:=⟨_,rfl⟩
 rw[← hr]
 have HR:=lH hr
 clear hr
 have hlt:=h.lt
 have HZ:=lH (Bx.fresh w #[.int .i64 0,.int .i64 0] 39)
 have hw0:=sA w (.cells #[.int .i64 0,.int .i64 0] 39)
 have o0:=Only.of (b:=b) hw0
 have h0:=h.since hw0
 go_enter Tryz.func164,Tryz.ntmps164
 go_wp2_with (first
  | (go_at_call 165; (with_reducible refine (number_any b n _ _ h0).mono ?_); rintro e w1 (⟨i,us1,_,x1,rfl,rfl,h1,o1⟩ | ⟨p,er,x1,rfl,o1⟩); have HZ1:=lH (o1.bx HZ.out (Nat.ne_of_gt hlt)); obtain⟨e0,e1⟩:=HZ1.out.two; obtain⟨f0,f1⟩:=HZ1.out.two'))
 all_goals first
  | (have B:=(HZ1.out.put2 (.int .i64 i) (.int .i64 i)); obtain⟨p0,p1⟩:=B.two; unfold put2 at p0 p1; obtain⟨k1,k2⟩:=cell2 (t:=39) (u0:=.int .i64 i) (u1:=.int .i64 i) (cs:=#[.int .i64 0,.int .i64 0]) (o0.trans o1) (Nat.le_refl _) h1 hlt; refine bodyPost_ret (v:=.agg #[.int .i64 i,.int .i64 i]) (by simp[results,Tryz.results164,go_sem,p0,p1]) rfl ?_; exact .inl ⟨(i,i),us1,_,by rw[HR.out]; simp only[singleD,bnd,R.bind,ret,x1],rfl,rfl,by first | exact k2 | exact k2.since (Since.drew (Since.refl _)),by first | exact k1 | exact k1.drew⟩)
  | (exact⟨rfl,.inr ⟨_,_,by rw[HR.out]; simp only[singleD,bnd,R.bind,x1],rfl,o0.trans (o1)⟩⟩)
end Go.Proofs.YtjmmcnldfkjebaaGreatDoor.Prs
namespace Go.Proofs.YtjmmcnldfkjebaaGreatDoor.Prs
open Go.RowKit
set_option linter.unusedVariables false
set_option linter.unusedSimpArgs false
open Dig Lx Tk Ps Ti
theorem owns_only {w w':World} {base:Nat} {e:TypeId} {size:Nat} {v:Value} {n:Nat} {xs:List Value} {b:Nat} (h:w.ownsRow base e size v n xs) (k:Only b w w') (hb:b<base):w'.ownsRow base e size v n xs:=by
 refine⟨h.1,?_⟩
 rcases h.2 with h1 | ⟨g,cap,cur,h1,h2,h3,h4⟩
 · exact .inl h1
 · refine .inr ⟨g,cap,cur,h1,h2,?_,h4⟩
   have hg:g<w.heap.size:=by
    apply Decidable.byContradiction; intro hn
    rw[Array.getElem?_eq_none (by omega)] at h3; cases h3
   rw[k.block g hg (fun e=>by injection e; omega)]; exact h3
theorem Only.app {b:Nat} {x y z:World} {o:Option Nat} (h:Only b x y) (k:y.grownBy z o) (ho:∀ g,o=some g→x.heap.size≤g):Only b x z:=
 ⟨k.os.trans h.os,k.tape.trans h.tape,k.output.trans h.output,Nat.le_trans h.size k.size,fun i hi hn=>(k.block i (Nat.lt_of_lt_of_le hi h.size) (fun e=>by have:=ho i e.symm; omega)).trans (h.block i hi hn)⟩
theorem Rd.grow {b:Nat} {n:Int} {ts:Ts} {w w':World} {o:Option Nat} (h:Rd b n ts w) (k:w.grownBy w' o) (ho:∀ g,o=some g→b<g):Rd b n ts w':=by
 obtain⟨A,m,c,i,ts0,w0,h1,h2,h3,h4,h5,h6,h7⟩:=h
 have hl:=h7.lt
 refine⟨A,m,c,i,ts0,w0,h1,h2,Below.grown h3 k h3.size (fun j hj=>by have:=ho j hj; omega),h4,h5,h6,?_⟩
 unfold Bx at *
 rw[k.block b hl (fun e=>by have:=ho b e.symm; omega)]; exact h7
def lenV:Value→Nat
 | .slice _ n _=>n
 | _=>0
def serD {α:Type} (p:P α) (close:ByteArray) (most:Nat):Nat→List α→P (List α)
 | 0,_=>wrong
 | f+1,out=>fun n ts=>if out.length=most then .bad (place n ts) 3 else
  bnd p (fun x=>bnd (one [L ⟨#[44]⟩,L close]) fun s=>if (s.toList == close.toList)=true then ret (out ++ [x]) else serD p close most f (out ++ [x])) n ts
section
variable {α:Type} {p:P α} {close:ByteArray} {most f:Nat} {out:List α} {n:Int} {ts r r2:Ts} {x:α} {s:ByteArray} {q er:Int}
theorem serD_big (h:out.length=most):serD p close most (f+1) out n ts = .bad (place n ts) 3:=if_pos h
theorem serD_bad (h:out.length≠most) (h1:p n ts = .bad q er):serD p close most (f+1) out n ts = .bad q er:=by
 simp only[serD,if_neg h,bnd,R.bind,h1]
theorem serD_mid (h:out.length≠most) (h1:p n ts = .ok x r) (h2:one [L ⟨#[44]⟩,L close] n r = .bad q er):serD p close most (f+1) out n ts = .bad q er:=by
 simp only[serD,if_neg h,bnd,R.bind,h1,h2]
theorem serD_end (h:out.length≠most) (h1:p n ts = .ok x r) (h2:one [L ⟨#[44]⟩,L close] n r = .ok s r2) (h3:(s.toList == close.toList)=true):serD p close most (f+1) out n ts = .ok (out ++ [x]) r2:=by
 simp only[serD,if_neg h,bnd,R.bind,h1,h2,h3,if_true,ret]
theorem serD_more (h:out.length≠most) (h1:p n ts = .ok x r) (h2:one [L ⟨#[44]⟩,L close] n r = .ok s r2) (h3:(s.toList == close.toList)=false):serD p close most (f+1) out n ts=serD p close most f (out ++ [x]) n r2:=by
 simp only[serD,if_neg h,bnd,R.bind,h1,h2,h3,Bool.false_eq_true,if_false]
end
theorem info_pexpr:(Tryz.prog.info? 93).map (fun i=>(i.zero,i.size,i.bytes))=some (some (.agg #[.int .i64 0,.int .i64 0,.string ⟨#[]⟩,.slice none 0 0]),4,56):=by kernel_rfl
theorem info_range:(Tryz.prog.info? 39).map (fun i=>(i.zero,i.size,i.bytes))=some (some (.agg #[.int .i64 0,.int .i64 0]),2,16):=by kernel_rfl
abbrev Old (w:World):Nat→Prop:=fun b=>b<w.heap.size
theorem seriesP_any (b:Nat) (n:Int) (ts:Ts) (close:ByteArray) (most:Nat) (w:World) (h0:Rd b n ts w) (hm:most≤1000) :
 Calls Tryz.prog 168 #[.pointer (some ⟨b,0,none⟩),.string close,.int .i64 (most:Int),.func (.func 150) #[.pointer (some ⟨b,0,none⟩)] #[]] w
  (Got (fun w' l v=>Sl 4 (QP) w' v l∧FarO (Old w) v) b n (serD (plain) close most (most+1) [] n ts) w):=by
 obtain⟨r,hr⟩:∃ r,r=serD (plain) close most (most+1) [] n ts:=⟨_,rfl⟩
 rw[← hr]
 have HR:=lH hr
 clear hr
 obtain⟨i0,hi,hz0,hz1,hz2⟩:=info_parts info_pexpr
 have hlt:=h0.lt
 have H0:=lH h0
 clear h0
 go_enter Tryz.func168,Tryz.ntmps168
 go_wp2
 go_loopw [9] (fun out wr=>∃ (k:Nat) (A:Option Addr) (c:Nat) (xs:List (Pl)) (cs:List Value) (us:Ts),out = .slice A k c∧k≤most∧Hid (xs.length=k)∧Hid (wr.ownsRow w.heap.size 93 4 (.slice A k c) k cs)∧Hid (Rws 4 (QP wr) xs cs)∧Hid (serD (plain) close most (most+1 - k) xs n us=r)∧Hid (Rd b n us wr)∧Hid (Only b w wr)) (fun out _=>most+1 - lenV out)
 case atStart=>exact⟨0,none,0,[],[],ts,rfl,Nat.zero_le _,rfl,World.ownsRow_nil _ _ _ _,.nil,HR.out.symm,H0.out,Only.refl _ _⟩
 case round =>
  clear H0
  obtain⟨k,A,c,xs,cs,us,rfl,hk,HX,HO,HQ,HE,HD,HW⟩:=hrel
  obtain⟨f,hf⟩:∃ f,most+1 - k=f+1:=⟨most - k,by omega⟩
  have he:=HE.out
  rw[hf] at he
  have HE1:=lH he
  clear he HE
  by_cases hmost:k=most
  · have hz:((k:Int) == (most:Int))=true:=by rw[beq_iff_eq]; omega
    have HB:=lH (HE1.out.symm.trans (serD_big (HX.out.trans hmost)))
    have PL:=lH (fun W (k:Since wr W)=>place_any b n us W (HD.out.since k))
    clear hmost HE1
    go_wp2_with (go_at_call 95; (with_reducible refine (PL.out _ (Since.refl _)).mono ?_); rintro e w1 ⟨rfl,hs1⟩)
    exact⟨rfl,.inr ⟨_,_,HB.out,rfl,HW.out.trans (.of hs1)⟩⟩
  have hz:((k:Int) == (most:Int))=false:=by rw[beq_eq_false_iff_ne]; omega
  have hne:xs.length≠most:=by rw[HX.out]; exact hmost
  have HN:=lH hne
  have hk1:k+1≤most:=by omega
  clear hmost hne
  have hd:=HD.out
  have EC:=lH (plain_any b n us wr hd)
  go_wp2_with (first
   | (go_at_call 150; (with_reducible refine EC.out.mono ?_); rintro e w1 (⟨x,us1,_,x1,rfl,rfl,h1,o1⟩ | ⟨p,er,x1,rfl,o1⟩))
   | (at_builtin; refine wpList_append_own_at _ rfl _ _ 40 rfl w.heap.size 93 i0 (.agg #[.int .i64 0,.int .i64 0,.string ⟨#[]⟩,.slice none 0 0]) 4 56 Tryz.underlying40 hi hz0 hz1 hz2 rfl (by decide) _ _ _ rfl (owns_since (owns_only HO.out o1 hlt) (sA _ _)) ⟨w1.heap.size,0,none⟩ 1 1 [.int .i64 x.k,.int .i64 x.n,.string x.s,.slice none 0 0] rfl rfl ?c1 ?c2 ?c3 ?c4 ?c5 ?_))
  case inr=>exact⟨rfl,.inr ⟨_,_,HE1.out.symm.trans (serD_bad HN.out x1),rfl,HW.out.trans o1⟩⟩
  case c1 =>
   intro j u hj
   exact cell_new _ _ _ rfl (by simpa using hj)
  case c2=>intro u hu; simp at hu; rcases hu with rfl | rfl | rfl | rfl <;> rfl
  case c3=>unfold maxLen; omega
  case c4=>omega
  case c5=>have:=HW.out.size; have:=o1.size; simp; omega
  intro v' w2 hown' hgrow _ hat
  have hgo:∀ g,(Value.slice A k c).ownBlock=some g→w.heap.size≤g:=fun g hg=>(HO.out.lt g hg).1
  have hw2:Only b w w2:=((HW.out.trans o1).alloc _).app hgrow hgo
  have hd2:Rd b n us1 w2:=(h1.since (sA _ _)).grow hgrow (fun g hg=>by have:=hgo g hg; omega)
  have hq1:Rws 4 (QP w2) (xs ++ [x]) (cs ++ [.int .i64 x.k,.int .i64 x.n,.string x.s,.slice none 0 0]):=(HQ.out.mono fun x u h=>h).snoc ⟨none,0,rfl⟩ rfl
  have ho1:w2.ownsRow w.heap.size 93 4 v' (k+1) (cs ++ [.int .i64 x.k,.int .i64 x.n,.string x.s,.slice none 0 0]):=hown'
  clear hown' hgrow hat hgo
  obtain⟨A',c',rfl⟩:=owns_slice ho1
  have HO1:=lH ho1
  have HQ1:=lH hq1
  clear ho1 hq1
  have hx1:(xs ++ [x]).length=k+1:=by rw[List.length_append,HX.out]; rfl
  go_wp2_with (first | (go_at_call 96; (with_reducible refine (choose2 hd2 (by simp) _ _ _).mono ?_); rintro e w3 (⟨s,us3,_,x3,rfl,rfl,h3,o3⟩ | ⟨p,er,x3,rfl,o3⟩)))
  case inr=>exact⟨rfl,.inr ⟨_,_,HE1.out.symm.trans (serD_mid HN.out x1 x3),rfl,hw2.trans o3⟩⟩
  all_goals first
   | (go_ret; rename_i hq; exact .inl ⟨xs ++ [x],us3,_,HE1.out.symm.trans (serD_end HN.out x1 x3 hq),rfl,⟨Sl.own (owns_only HO1.out o3 hlt) (HQ1.out.mono fun x u h=>h) hx1.symm,FarO.own (owns_only HO1.out o3 hlt) (fun b hb=>hb)⟩,h3,hw2.trans o3⟩)
   | skip
  all_goals
   rename_i hq
   go_roundw
   case rel=>exact⟨k+1,A',c',xs ++ [x],_,us3,rfl,hk1,hx1,owns_only HO1.out o3 hlt,HQ1.out.mono (fun x u h=>h),by have:=(serD_more HN.out x1 x3 hq).symm.trans HE1.out; rwa [show f=most+1 - (k+1) by omega] at this,h3,hw2.trans o3⟩
   case measure=>simp[lenV]; omega
theorem seriesR_any (b:Nat) (n:Int) (ts:Ts) (close:ByteArray) (most:Nat) (w:World) (h0:Rd b n ts w) (hm:most≤1000) :
 Calls Tryz.prog 163 #[.pointer (some ⟨b,0,none⟩),.string close,.int .i64 (most:Int),.func (.func 164) #[.pointer (some ⟨b,0,none⟩)] #[]] w
  (Got (fun w' l v=>Sl 2 (QR) w' v l∧FarO (Old w) v) b n (serD (singleD) close most (most+1) [] n ts) w):=by
 obtain⟨r,hr⟩:∃ r,r=serD (singleD) close most (most+1) [] n ts:=⟨_,rfl⟩
 rw[← hr]
 have HR:=lH hr
 clear hr
 obtain⟨i0,hi,hz0,hz1,hz2⟩:=info_parts info_range
 have hlt:=h0.lt
 have H0:=lH h0
 clear h0
 go_enter Tryz.func163,Tryz.ntmps163
 go_wp2
 go_loopw [9] (fun out wr=>∃ (k:Nat) (A:Option Addr) (c:Nat) (xs:List (Int × Int)) (cs:List Value) (us:Ts),out = .slice A k c∧k≤most∧Hid (xs.length=k)∧Hid (wr.ownsRow w.heap.size 39 2 (.slice A k c) k cs)∧Hid (Rws 2 (QR wr) xs cs)∧Hid (serD (singleD) close most (most+1 - k) xs n us=r)∧Hid (Rd b n us wr)∧Hid (Only b w wr)) (fun out _=>most+1 - lenV out)
 case atStart=>exact⟨0,none,0,[],[],ts,rfl,Nat.zero_le _,rfl,World.ownsRow_nil _ _ _ _,.nil,HR.out.symm,H0.out,Only.refl _ _⟩
 case round =>
  clear H0
  obtain⟨k,A,c,xs,cs,us,rfl,hk,HX,HO,HQ,HE,HD,HW⟩:=hrel
  obtain⟨f,hf⟩:∃ f,most+1 - k=f+1:=⟨most - k,by omega⟩
  have he:=HE.out
  rw[hf] at he
  have HE1:=lH he
  clear he HE
  by_cases hmost:k=most
  · have hz:((k:Int) == (most:Int))=true:=by rw[beq_iff_eq]; omega
    have HB:=lH (HE1.out.symm.trans (serD_big (HX.out.trans hmost)))
    have PL:=lH (fun W (k:Since wr W)=>place_any b n us W (HD.out.since k))
    clear hmost HE1
    go_wp2_with (go_at_call 95; (with_reducible refine (PL.out _ (Since.refl _)).mono ?_); rintro e w1 ⟨rfl,hs1⟩)
    exact⟨rfl,.inr ⟨_,_,HB.out,rfl,HW.out.trans (.of hs1)⟩⟩
  have hz:((k:Int) == (most:Int))=false:=by rw[beq_eq_false_iff_ne]; omega
  have hne:xs.length≠most:=by rw[HX.out]; exact hmost
  have HN:=lH hne
  have hk1:k+1≤most:=by omega
  clear hmost hne
  have hd:=HD.out
  have EC:=lH (single_any b n us wr hd)
  go_wp2_with (first
   | (go_at_call 164; (with_reducible refine EC.out.mono ?_); rintro e w1 (⟨x,us1,_,x1,rfl,rfl,h1,o1⟩ | ⟨p,er,x1,rfl,o1⟩))
   | (at_builtin; refine wpList_append_own_at _ rfl _ _ 25 rfl w.heap.size 39 i0 (.agg #[.int .i64 0,.int .i64 0]) 2 16 Tryz.underlying25 hi hz0 hz1 hz2 rfl (by decide) _ _ _ rfl (owns_since (owns_only HO.out o1 hlt) (sA _ _)) ⟨w1.heap.size,0,none⟩ 1 1 [.int .i64 x.1,.int .i64 x.2] rfl rfl ?c1 ?c2 ?c3 ?c4 ?c5 ?_))
  case inr=>exact⟨rfl,.inr ⟨_,_,HE1.out.symm.trans (serD_bad HN.out x1),rfl,HW.out.trans o1⟩⟩
  case c1 =>
   intro j u hj
   exact cell_new _ _ _ rfl (by simpa using hj)
  case c2=>intro u hu; simp at hu; rcases hu with rfl | rfl <;> rfl
  case c3=>unfold maxLen; omega
  case c4=>omega
  case c5=>have:=HW.out.size; have:=o1.size; simp; omega
  intro v' w2 hown' hgrow _ hat
  have hgo:∀ g,(Value.slice A k c).ownBlock=some g→w.heap.size≤g:=fun g hg=>(HO.out.lt g hg).1
  have hw2:Only b w w2:=((HW.out.trans o1).alloc _).app hgrow hgo
  have hd2:Rd b n us1 w2:=(h1.since (sA _ _)).grow hgrow (fun g hg=>by have:=hgo g hg; omega)
  have hq1:Rws 2 (QR w2) (xs ++ [x]) (cs ++ [.int .i64 x.1,.int .i64 x.2]):=(HQ.out.mono fun x u h=>h).snoc rfl rfl
  have ho1:w2.ownsRow w.heap.size 39 2 v' (k+1) (cs ++ [.int .i64 x.1,.int .i64 x.2]):=hown'
  clear hown' hgrow hat hgo
  obtain⟨A',c',rfl⟩:=owns_slice ho1
  have HO1:=lH ho1
  have HQ1:=lH hq1
  clear ho1 hq1
  have hx1:(xs ++ [x]).length=k+1:=by rw[List.length_append,HX.out]; rfl
  go_wp2_with (first | (go_at_call 96; (with_reducible refine (choose2 hd2 (by simp) _ _ _).mono ?_); rintro e w3 (⟨s,us3,_,x3,rfl,rfl,h3,o3⟩ | ⟨p,er,x3,rfl,o3⟩)))
  case inr=>exact⟨rfl,.inr ⟨_,_,HE1.out.symm.trans (serD_mid HN.out x1 x3),rfl,hw2.trans o3⟩⟩
  all_goals first
   | (go_ret; rename_i hq; exact .inl ⟨xs ++ [x],us3,_,HE1.out.symm.trans (serD_end HN.out x1 x3 hq),rfl,⟨Sl.own (owns_only HO1.out o3 hlt) (HQ1.out.mono fun x u h=>h) hx1.symm,FarO.own (owns_only HO1.out o3 hlt) (fun b hb=>hb)⟩,h3,hw2.trans o3⟩)
   | skip
  all_goals
   rename_i hq
   go_roundw
   case rel=>exact⟨k+1,A',c',xs ++ [x],_,us3,rfl,hk1,hx1,owns_only HO1.out o3 hlt,HQ1.out.mono (fun x u h=>h),by have:=(serD_more HN.out x1 x3 hq).symm.trans HE1.out; rwa [show f=most+1 - (k+1) by omega] at this,h3,hw2.trans o3⟩
   case measure=>simp[lenV]; omega
end Go.Proofs.YtjmmcnldfkjebaaGreatDoor.Prs
namespace Go.Proofs.YtjmmcnldfkjebaaGreatDoor.Prs
open Go.RowKit
set_option linter.unusedVariables false
set_option linter.unusedSimpArgs false
open Dig Lx Tk Ps Ti
def exprsD {α:Type} (p:P α) (close:ByteArray):P (List α):=bnd (skp (L close)) fun q=>if q=true then ret [] else serD p close 64 65 []
theorem seriesP_64 (b:Nat) (n:Int) (ts:Ts) (close:ByteArray) (w:World) (h0:Rd b n ts w) :
 Calls Tryz.prog 168 #[.pointer (some ⟨b,0,none⟩),.string close,.int .i64 64,.func (.func 150) #[.pointer (some ⟨b,0,none⟩)] #[]] w
  (Got (fun w' l v=>Sl 4 (QP) w' v l∧FarO (Old w) v) b n (serD (plain) close 64 65 [] n ts) w):=seriesP_any b n ts close 64 w h0 (by decide)
theorem seriesR_256 (b:Nat) (n:Int) (ts:Ts) (close:ByteArray) (w:World) (h0:Rd b n ts w) :
 Calls Tryz.prog 163 #[.pointer (some ⟨b,0,none⟩),.string close,.int .i64 256,.func (.func 164) #[.pointer (some ⟨b,0,none⟩)] #[]] w
  (Got (fun w' l v=>Sl 2 (QR) w' v l∧FarO (Old w) v) b n (serD (singleD) close 256 257 [] n ts) w):=seriesR_any b n ts close 256 w h0 (by decide)
theorem exprsP_any (b:Nat) (n:Int) (ts:Ts) (close:ByteArray) (w:World) (h0:Rd b n ts w) :
 Calls Tryz.prog 154 #[.pointer (some ⟨b,0,none⟩),.string close,.func (.func 150) #[.pointer (some ⟨b,0,none⟩)] #[]] w
  (Got (fun w' l v=>Sl 4 (QP) w' v l∧FarO (Old w) v) b n (exprsD (plain) close n ts) w):=by
 obtain⟨r,hr⟩:∃ r,r=exprsD (plain) close n ts:=⟨_,rfl⟩
 rw[← hr]
 have HR:=lH hr
 clear hr
 go_enter Tryz.func154,Tryz.ntmps154
 go_wp2_with (first
  | (go_at_call 147; (with_reducible refine (skip_any b n _ _ _ h0).mono ?_); rintro e w1 (⟨q,us1,_,x1,rfl,rfl,h1,o1⟩ | ⟨p,er,x1,rfl,o1⟩); cases q)
  | (go_at_call 168; (with_reducible refine (seriesP_64 b n _ _ _ h1).mono ?_); rintro e w2 (⟨l,us2,_,x2,rfl,⟨k1,k2⟩,h2,o2⟩ | ⟨p,er,x2,rfl,o2⟩)))
 all_goals first
  | (go_ret; exact .inl ⟨l,us2,_,by rw[HR.out]; simp only[exprsD,bnd,R.bind,x1,Bool.false_eq_true,if_false,x2],rfl,⟨k1,k2.mono (fun b hb=>Nat.lt_of_lt_of_le hb o1.size)⟩,h2,o1.trans o2⟩)
  | (go_ret; exact .inl ⟨[],us1,_,by rw[HR.out]; simp only[exprsD,bnd,R.bind,x1,if_true,ret],rfl,⟨Sl.nil _ _ _,by rintro b o n c hh; cases hh⟩,h1,o1⟩)
  | (exact⟨rfl,.inr ⟨_,_,by rw[HR.out]; simp only[exprsD,bnd,R.bind,x1,Bool.false_eq_true,if_false,x2],rfl,o1.trans o2⟩⟩)
  | (exact⟨rfl,.inr ⟨_,_,by rw[HR.out]; simp only[exprsD,bnd,R.bind,x1],rfl,o1⟩⟩)
def listD:P (List Pl):=bnd (takes [L ⟨#[91]⟩]) fun _=>exprsD plain ⟨#[93]⟩
theorem list_any (b:Nat) (n:Int) (ts:Ts) (w:World) (h0:Rd b n ts w) :
 Calls Tryz.prog 153 #[.pointer (some ⟨b,0,none⟩)] w (Got (fun w' l v=>Sl 4 QP w' v l∧FarO (Old w) v) b n (listD n ts) w):=by
 have hmf:∀ (fn:Fn) (first cap:Array Value) (w:World),(Instr.makeFunc fn first cap).run Tryz.prog w = .ok (.func fn first cap) w:=fun _ _ _ _=>rfl
 obtain⟨r,hr⟩:∃ r,r=listD n ts:=⟨_,rfl⟩
 rw[← hr]
 have HR:=lH hr
 clear hr
 go_enter Tryz.func153,Tryz.ntmps153
 go_wp2_with (first
  | (go_at_call 98; (with_reducible refine (follow1 h0 (by simp[World.setCell]) _ _).mono ?_); rintro e w1 (⟨_,us1,_,x1,rfl,rfl,h1,o1⟩ | ⟨p,er,x1,rfl,o1⟩))
  | (go_at_call 154; (with_reducible refine (exprsP_any b n _ _ _ h1).mono ?_); rintro e w2 (⟨l,us2,_,x2,rfl,⟨k1,k2⟩,h2,o2⟩ | ⟨p,er,x2,rfl,o2⟩)))
 all_goals first
  | (go_ret; exact .inl ⟨l,us2,_,by rw[HR.out]; simp only[listD,bnd,R.bind,ret,x1,x2],rfl,⟨k1,k2.mono (fun b hb=>Nat.lt_of_lt_of_le hb o1.size)⟩,h2,o1.trans (o2)⟩)
  | (exact⟨rfl,.inr ⟨_,_,by rw[HR.out]; simp only[listD,bnd,R.bind,x1,x2],rfl,o1.trans (o2)⟩⟩)
  | (exact⟨rfl,.inr ⟨_,_,by rw[HR.out]; simp only[listD,bnd,R.bind,x1],rfl,o1⟩⟩)
end Go.Proofs.YtjmmcnldfkjebaaGreatDoor.Prs
namespace Go.Proofs.YtjmmcnldfkjebaaGreatDoor.Prs
open Go.RowKit
set_option linter.unusedVariables false
set_option linter.unusedSimpArgs false
open Dig Lx Tk Ps Ti
def exprE:P Xp:=fun n ts=>if isW [91] ts=true then bnd listD (fun l=>ret ⟨4,0,nos,l⟩) n ts else bnd plain (fun p=>ret p.xp) n ts
theorem FarO.no {G:Nat→Prop} : FarO G (.slice none 0 0):=by rintro b o n c hh; cases hh
def XV (w:World) (w':World) (x:Xp) (v:Value):Prop:=∃ A c,v = .agg #[.int .i64 x.k,.int .i64 x.n,.string x.s,.slice A x.l.length c]∧Sl 4 QP w' (.slice A x.l.length c) x.l∧FarO (Old w) (.slice A x.l.length c)
theorem expr_any (b:Nat) (n:Int) (ts:Ts) (w:World) (h:Rd b n ts w) :
 Calls Tryz.prog 155 #[.pointer (some ⟨b,0,none⟩)] w (Got (XV w) b n (exprE n ts) w):=by
 have HR:=lH h
 have hlt:=h.lt
 clear h
 obtain⟨W1,hW1⟩:∃ W1,W1=w.alloc (.cells #[.int .i64 0,.int .i64 0,.string ⟨#[]⟩,.slice none 0 0] 93):=⟨_,rfl⟩
 have hw0:Since w W1:=by rw[hW1]; exact sA _ _
 have HZ:=lH (show Bx W1 w.heap.size #[.int .i64 0,.int .i64 0,.string ⟨#[]⟩,.slice none 0 0] 93 by rw[hW1]; exact Bx.fresh _ _ _)
 have hsz:W1.heap.size=w.heap.size+1:=by rw[hW1]; simp
 have D:=lH (fun W (k:Since w W)=>done_any b n ts W (HR.out.since k))
 have LC:=lH (fun W (k:Since w W)=>list_any b n ts W (HR.out.since k))
 have PC:=lH (fun W (k:Since w W)=>plain_any b n ts W (HR.out.since k))
 have HW:=lH hW1
 clear hW1
 cases ts with
 | nil =>
  rw[decide_eq_true rfl] at D
  rw[show exprE n []=bnd plain (fun p=>ret p.xp) n [] from if_neg (by rw[show isW [91] []=false from rfl]; exact Bool.false_ne_true)]
  go_enter Tryz.func155,Tryz.ntmps155
  go_wp2
  rw[← HW.out]
  have hr0:Since W1 W1.drew:=Since.drew (Since.refl W1)
  refine Reg.wp_region_G (S:=fun _=>True) (fun j => [].contains j) (by kernel_rfl) trivial ?_
  refine' Reg.tk (i:=0) (oi:=⟨some 3,.move (.tmp 0),116,"expr.go:40",#[],none⟩) (v:=_) [1,2,3,4,5,6,7,8,9,10,11,12,13,14,15,16] [] (Or.inl ⟨by rfl,Or.inl ?hy2⟩) ?r_2
  case hy2=>(intro w' kk ss; skip; go_simp; first | done | with_reducible rfl)
  try simp only[Act.put,Reg.l1,Reg.l2,Reg.l3]
  refine Reg.tk (i:=1) (oi:=⟨some 4,.call ⟨.value (.func 94),#[.tmp 3],#[116]⟩,4,"expr.go:40",#[⟨0,.data⟩],none⟩) (v:=.bool true) [2,3,4,5,6,7,8,9,10,11,12,13,14,15,16] [] (Or.inl ⟨by rfl,Or.inr ⟨94,#[.pointer (some ⟨b,0,none⟩)],fun w' kk ss=>⟨?_,?_⟩⟩⟩) ?_
  · (try dsimp only at ss); go_simp
  · exact (D.out w' (hw0.trans (hr0.trans kk))).mono fun e w'' h=>⟨h.1,h.2,trivial⟩
  try simp only[Act.put,Reg.l1,Reg.l2,Reg.l3]
  refine' Reg.tk (i:=2) (oi:=⟨some 5,.unOp .not 4 (.tmp 4),4,"expr.go:40",#[⟨1,.data⟩],none⟩) (v:=_) [3,4,5,6,7,8,9,10,11,12,13,14,15,16] [] (Or.inl ⟨by rfl,Or.inl ?hy3⟩) ?r_3
  case hy3=>(intro w' kk ss; skip; go_simp; first | done | with_reducible rfl)
  try simp only[Act.put,Reg.l1,Reg.l2,Reg.l3]
  refine' Reg.tk (i:=3) (oi:=⟨some 6,.move (.tmp 5),4,"expr.go:40",#[⟨2,.data⟩,⟨1,.chain⟩],none⟩) (v:=_) [4,5,6,7,8,9,10,11,12,13,14,15,16] [] (Or.inl ⟨by rfl,Or.inl ?hy4⟩) ?r_4
  case hy4=>(intro w' kk ss; skip; go_simp; first | done | with_reducible rfl)
  try simp only[Act.put,Reg.l1,Reg.l2,Reg.l3]
  refine Reg.tk (i:=4) (oi:=⟨some 7,.move (.tmp 0),116,"expr.go:40",#[⟨3,.guard⟩],some (3,true)⟩) (v:=undef) [5,6,7,12,13,14,15,16] [] (Or.inr ⟨by rfl,rfl⟩) ?_
  try simp only[Act.put,Reg.l1,Reg.l2,Reg.l3]
  refine Reg.tk (i:=5) (oi:=⟨some 8,.nilCheck (.tmp 7),0,"expr.go:40",#[⟨4,.data⟩,⟨3,.guard⟩],some (3,true)⟩) (v:=undef) [6,7,12,13,14,15,16] [] (Or.inr ⟨by rfl,rfl⟩) ?_
  try simp only[Act.put,Reg.l1,Reg.l2,Reg.l3]
  refine Reg.tk (i:=6) (oi:=⟨some 9,.fieldAddr 88 (.tmp 8) 0,0,"expr.go:40",#[⟨5,.data⟩,⟨3,.guard⟩],some (3,true)⟩) (v:=undef) [7,12,13,14,15,16] [] (Or.inr ⟨by rfl,rfl⟩) ?_
  try simp only[Act.put,Reg.l1,Reg.l2,Reg.l3]
  refine Reg.tk (i:=7) (oi:=⟨some 10,.load 54 (.tmp 9),54,"expr.go:40",#[⟨6,.data⟩,⟨3,.guard⟩],some (3,true)⟩) (v:=undef) [12,13,14,15,16] [] (Or.inr ⟨by rfl,rfl⟩) ?_
  try simp only[Act.put,Reg.l1,Reg.l2,Reg.l3]
  refine Reg.tk (i:=8) (oi:=⟨some 11,.move (.tmp 0),116,"expr.go:40",#[⟨3,.guard⟩],some (3,true)⟩) (v:=undef) [9,10,11,12,13,14,15,16] [] (Or.inr ⟨by rfl,rfl⟩) ?_
  try simp only[Act.put,Reg.l1,Reg.l2,Reg.l3]
  refine Reg.tk (i:=9) (oi:=⟨some 12,.nilCheck (.tmp 11),0,"expr.go:40",#[⟨8,.data⟩,⟨3,.guard⟩],some (3,true)⟩) (v:=undef) [10,11,12,13,14,15,16] [] (Or.inr ⟨by rfl,rfl⟩) ?_
  try simp only[Act.put,Reg.l1,Reg.l2,Reg.l3]
  refine Reg.tk (i:=10) (oi:=⟨some 13,.fieldAddr 88 (.tmp 12) 1,0,"expr.go:40",#[⟨9,.data⟩,⟨3,.guard⟩],some (3,true)⟩) (v:=undef) [11,12,13,14,15,16] [] (Or.inr ⟨by rfl,rfl⟩) ?_
  try simp only[Act.put,Reg.l1,Reg.l2,Reg.l3]
  refine Reg.tk (i:=11) (oi:=⟨some 14,.load 3 (.tmp 13),3,"expr.go:40",#[⟨10,.data⟩,⟨3,.guard⟩],some (3,true)⟩) (v:=undef) [12,13,14,15,16] [] (Or.inr ⟨by rfl,rfl⟩) ?_
  try simp only[Act.put,Reg.l1,Reg.l2,Reg.l3]
  refine Reg.tk (i:=12) (oi:=⟨some 15,.indexAddr 54 (.tmp 10) (.tmp 14),0,"expr.go:40",#[⟨7,.data⟩,⟨11,.data⟩,⟨3,.guard⟩],some (3,true)⟩) (v:=undef) [13,14,15,16] [] (Or.inr ⟨by rfl,rfl⟩) ?_
  try simp only[Act.put,Reg.l1,Reg.l2,Reg.l3]
  refine Reg.tk (i:=13) (oi:=⟨some 16,.fieldAddr 76 (.tmp 15) 1,0,"expr.go:40",#[⟨12,.data⟩,⟨3,.guard⟩],some (3,true)⟩) (v:=undef) [14,15,16] [] (Or.inr ⟨by rfl,rfl⟩) ?_
  try simp only[Act.put,Reg.l1,Reg.l2,Reg.l3]
  refine Reg.tk (i:=14) (oi:=⟨some 17,.load 9 (.tmp 16),9,"expr.go:40",#[⟨13,.data⟩,⟨3,.guard⟩],some (3,true)⟩) (v:=undef) [15,16] [] (Or.inr ⟨by rfl,rfl⟩) ?_
  try simp only[Act.put,Reg.l1,Reg.l2,Reg.l3]
  refine Reg.tk (i:=15) (oi:=⟨some 18,.binOp .eql 9 (.tmp 17) (.const (.string { data:=#[91] })) 9,4,"expr.go:40",#[⟨14,.data⟩,⟨3,.guard⟩],some (3,true)⟩) (v:=undef) [16] [] (Or.inr ⟨by rfl,rfl⟩) ?_
  try simp only[Act.put,Reg.l1,Reg.l2,Reg.l3]
  refine' Reg.tk (i:=16) (oi:=⟨some 19,.pick (.tmp 6) (.tmp 18) (.const (.bool false)),4,"expr.go:40",#[⟨3,.data⟩,⟨15,.data⟩],none⟩) (v:=_) [] [] (Or.inl ⟨by rfl,Or.inl ?hy5⟩) ?r_5
  case hy5=>(intro w' kk ss; skip; go_simp; first | done | with_reducible rfl)
  try simp only[Act.put,Reg.l1,Reg.l2,Reg.l3]
  refine Reg.wpG_done (by kernel_rfl) (fun we ke se => ?_) _
  have hr0:=hr0.trans ke
  clear ke
  go_wp2_with (go_at_call 150; (with_reducible refine (PC.out _ (hw0.trans hr0)).mono ?_); rintro e w1 (⟨p,us1,_,x1,-⟩ | ⟨p,er,x1,rfl,o1⟩); (simp[plain,wrong] at x1))
  all_goals exact⟨rfl,.inr ⟨_,_,by simp only[bnd,R.bind,x1],rfl,(Only.of (hw0.trans hr0)).trans o1⟩⟩
 | cons t r =>
  rw[decide_eq_false (by simp)] at D
  obtain⟨b',o,m,c,i,hm,hi,HH,HB,HN⟩:=HR.out.all
  clear HB HN
  by_cases hq:L t.s = [91]
  · have hi91:isW [91] (t :: r)=true:=by simp[isW,hq]
    have hz:(t.s.toList == [91])=true:=by rw[toL]; rw[hq]; rfl
    rw[show exprE n (t :: r)=bnd listD (fun l=>ret ⟨4,0,nos,l⟩) n (t :: r) from if_pos hi91]
    clear hq hi91
    go_enter Tryz.func155,Tryz.ntmps155
    go_wp2
    rw[← HW.out]
    have hr0:Since W1 W1.drew:=Since.drew (Since.refl W1)
    refine Reg.wp_region_G (S:=fun _=>True) (fun j => [].contains j) (by kernel_rfl) trivial ?_
    refine' Reg.tk (i:=0) (oi:=⟨some 3,.move (.tmp 0),116,"expr.go:40",#[],none⟩) (v:=_) [1,2,3,4,5,6,7,8,9,10,11,12,13,14,15,16] [] (Or.inl ⟨by rfl,Or.inl ?hy7⟩) ?r_7
    case hy7=>(intro w' kk ss; obtain⟨h0,h1,q0,q1,q2,q3⟩:=HH.out _ (hw0.trans (hr0.trans kk)); go_simp; first | done | with_reducible rfl)
    try simp only[Act.put,Reg.l1,Reg.l2,Reg.l3]
    refine Reg.tk (i:=1) (oi:=⟨some 4,.call ⟨.value (.func 94),#[.tmp 3],#[116]⟩,4,"expr.go:40",#[⟨0,.data⟩],none⟩) (v:=.bool false) [2,3,4,5,6,7,8,9,10,11,12,13,14,15,16] [] (Or.inl ⟨by rfl,Or.inr ⟨94,#[.pointer (some ⟨b,0,none⟩)],fun w' kk ss=>⟨?_,?_⟩⟩⟩) ?_
    · (try dsimp only at ss); go_simp
    · exact (D.out w' (hw0.trans (hr0.trans kk))).mono fun e w'' h=>⟨h.1,h.2,trivial⟩
    try simp only[Act.put,Reg.l1,Reg.l2,Reg.l3]
    refine' Reg.tk (i:=2) (oi:=⟨some 5,.unOp .not 4 (.tmp 4),4,"expr.go:40",#[⟨1,.data⟩],none⟩) (v:=_) [3,4,5,6,7,8,9,10,11,12,13,14,15,16] [] (Or.inl ⟨by rfl,Or.inl ?hy8⟩) ?r_8
    case hy8=>(intro w' kk ss; obtain⟨h0,h1,q0,q1,q2,q3⟩:=HH.out _ (hw0.trans (hr0.trans kk)); go_simp; first | done | with_reducible rfl)
    try simp only[Act.put,Reg.l1,Reg.l2,Reg.l3]
    refine' Reg.tk (i:=3) (oi:=⟨some 6,.move (.tmp 5),4,"expr.go:40",#[⟨2,.data⟩,⟨1,.chain⟩],none⟩) (v:=_) [4,5,6,7,8,9,10,11,12,13,14,15,16] [] (Or.inl ⟨by rfl,Or.inl ?hy9⟩) ?r_9
    case hy9=>(intro w' kk ss; obtain⟨h0,h1,q0,q1,q2,q3⟩:=HH.out _ (hw0.trans (hr0.trans kk)); go_simp; first | done | with_reducible rfl)
    try simp only[Act.put,Reg.l1,Reg.l2,Reg.l3]
    refine' Reg.tk (i:=4) (oi:=⟨some 7,.move (.tmp 0),116,"expr.go:40",#[⟨3,.guard⟩],some (3,true)⟩) (v:=_) [5,6,7,12,13,14,15,16] [] (Or.inl ⟨by rfl,Or.inl ?hy10⟩) ?r_10
    case hy10=>(intro w' kk ss; obtain⟨h0,h1,q0,q1,q2,q3⟩:=HH.out _ (hw0.trans (hr0.trans kk)); go_simp; first | done | with_reducible rfl)
    try simp only[Act.put,Reg.l1,Reg.l2,Reg.l3]
    refine' Reg.tk (i:=5) (oi:=⟨some 8,.nilCheck (.tmp 7),0,"expr.go:40",#[⟨4,.data⟩,⟨3,.guard⟩],some (3,true)⟩) (v:=_) [6,7,12,13,14,15,16] [] (Or.inl ⟨by rfl,Or.inl ?hy11⟩) ?r_11
    case hy11=>(intro w' kk ss; obtain⟨h0,h1,q0,q1,q2,q3⟩:=HH.out _ (hw0.trans (hr0.trans kk)); go_simp; first | done | with_reducible rfl)
    try simp only[Act.put,Reg.l1,Reg.l2,Reg.l3]
    refine' Reg.tk (i:=6) (oi:=⟨some 9,.fieldAddr 88 (.tmp 8) 0,0,"expr.go:40",#[⟨5,.data⟩,⟨3,.guard⟩],some (3,true)⟩) (v:=_) [7,12,13,14,15,16] [] (Or.inl ⟨by rfl,Or.inl ?hy12⟩) ?r_12
    case hy12=>(intro w' kk ss; obtain⟨h0,h1,q0,q1,q2,q3⟩:=HH.out _ (hw0.trans (hr0.trans kk)); go_simp; first | done | with_reducible rfl)
    try simp only[Act.put,Reg.l1,Reg.l2,Reg.l3]
    refine' Reg.tk (i:=7) (oi:=⟨some 10,.load 54 (.tmp 9),54,"expr.go:40",#[⟨6,.data⟩,⟨3,.guard⟩],some (3,true)⟩) (v:=_) [12,13,14,15,16] [] (Or.inl ⟨by rfl,Or.inl ?hy13⟩) ?r_13
    case hy13=>(intro w' kk ss; obtain⟨h0,h1,q0,q1,q2,q3⟩:=HH.out _ (hw0.trans (hr0.trans kk)); go_simp; first | done | with_reducible rfl)
    try simp only[Act.put,Reg.l1,Reg.l2,Reg.l3]
    refine' Reg.tk (i:=8) (oi:=⟨some 11,.move (.tmp 0),116,"expr.go:40",#[⟨3,.guard⟩],some (3,true)⟩) (v:=_) [9,10,11,12,13,14,15,16] [] (Or.inl ⟨by rfl,Or.inl ?hy14⟩) ?r_14
    case hy14=>(intro w' kk ss; obtain⟨h0,h1,q0,q1,q2,q3⟩:=HH.out _ (hw0.trans (hr0.trans kk)); go_simp; first | done | with_reducible rfl)
    try simp only[Act.put,Reg.l1,Reg.l2,Reg.l3]
    refine' Reg.tk (i:=9) (oi:=⟨some 12,.nilCheck (.tmp 11),0,"expr.go:40",#[⟨8,.data⟩,⟨3,.guard⟩],some (3,true)⟩) (v:=_) [10,11,12,13,14,15,16] [] (Or.inl ⟨by rfl,Or.inl ?hy15⟩) ?r_15
    case hy15=>(intro w' kk ss; obtain⟨h0,h1,q0,q1,q2,q3⟩:=HH.out _ (hw0.trans (hr0.trans kk)); go_simp; first | done | with_reducible rfl)
    try simp only[Act.put,Reg.l1,Reg.l2,Reg.l3]
    refine' Reg.tk (i:=10) (oi:=⟨some 13,.fieldAddr 88 (.tmp 12) 1,0,"expr.go:40",#[⟨9,.data⟩,⟨3,.guard⟩],some (3,true)⟩) (v:=_) [11,12,13,14,15,16] [] (Or.inl ⟨by rfl,Or.inl ?hy16⟩) ?r_16
    case hy16=>(intro w' kk ss; obtain⟨h0,h1,q0,q1,q2,q3⟩:=HH.out _ (hw0.trans (hr0.trans kk)); go_simp; first | done | with_reducible rfl)
    try simp only[Act.put,Reg.l1,Reg.l2,Reg.l3]
    refine' Reg.tk (i:=11) (oi:=⟨some 14,.load 3 (.tmp 13),3,"expr.go:40",#[⟨10,.data⟩,⟨3,.guard⟩],some (3,true)⟩) (v:=_) [12,13,14,15,16] [] (Or.inl ⟨by rfl,Or.inl ?hy17⟩) ?r_17
    case hy17=>(intro w' kk ss; obtain⟨h0,h1,q0,q1,q2,q3⟩:=HH.out _ (hw0.trans (hr0.trans kk)); go_simp; first | done | with_reducible rfl)
    try simp only[Act.put,Reg.l1,Reg.l2,Reg.l3]
    refine' Reg.tk (i:=12) (oi:=⟨some 15,.indexAddr 54 (.tmp 10) (.tmp 14),0,"expr.go:40",#[⟨7,.data⟩,⟨11,.data⟩,⟨3,.guard⟩],some (3,true)⟩) (v:=_) [13,14,15,16] [] (Or.inl ⟨by rfl,Or.inl ?hy18⟩) ?r_18
    case hy18=>(intro w' kk ss; obtain⟨h0,h1,q0,q1,q2,q3⟩:=HH.out _ (hw0.trans (hr0.trans kk)); go_simp; first | done | with_reducible rfl)
    try simp only[Act.put,Reg.l1,Reg.l2,Reg.l3]
    refine' Reg.tk (i:=13) (oi:=⟨some 16,.fieldAddr 76 (.tmp 15) 1,0,"expr.go:40",#[⟨12,.data⟩,⟨3,.guard⟩],some (3,true)⟩) (v:=_) [14,15,16] [] (Or.inl ⟨by rfl,Or.inl ?hy19⟩) ?r_19
    case hy19=>(intro w' kk ss; obtain⟨h0,h1,q0,q1,q2,q3⟩:=HH.out _ (hw0.trans (hr0.trans kk)); go_simp; first | done | with_reducible rfl)
    try simp only[Act.put,Reg.l1,Reg.l2,Reg.l3]
    refine' Reg.tk (i:=14) (oi:=⟨some 17,.load 9 (.tmp 16),9,"expr.go:40",#[⟨13,.data⟩,⟨3,.guard⟩],some (3,true)⟩) (v:=_) [15,16] [] (Or.inl ⟨by rfl,Or.inl ?hy20⟩) ?r_20
    case hy20=>(intro w' kk ss; obtain⟨h0,h1,q0,q1,q2,q3⟩:=HH.out _ (hw0.trans (hr0.trans kk)); go_simp; first | done | with_reducible rfl)
    try simp only[Act.put,Reg.l1,Reg.l2,Reg.l3]
    refine' Reg.tk (i:=15) (oi:=⟨some 18,.binOp .eql 9 (.tmp 17) (.const (.string { data:=#[91] })) 9,4,"expr.go:40",#[⟨14,.data⟩,⟨3,.guard⟩],some (3,true)⟩) (v:=_) [16] [] (Or.inl ⟨by rfl,Or.inl ?hy21⟩) ?r_21
    case hy21=>(intro w' kk ss; obtain⟨h0,h1,q0,q1,q2,q3⟩:=HH.out _ (hw0.trans (hr0.trans kk)); go_simp; first | done | with_reducible rfl)
    try simp only[Act.put,Reg.l1,Reg.l2,Reg.l3]
    refine' Reg.tk (i:=16) (oi:=⟨some 19,.pick (.tmp 6) (.tmp 18) (.const (.bool false)),4,"expr.go:40",#[⟨3,.data⟩,⟨15,.data⟩],none⟩) (v:=_) [] [] (Or.inl ⟨by rfl,Or.inl ?hy22⟩) ?r_22
    case hy22=>(intro w' kk ss; obtain⟨h0,h1,q0,q1,q2,q3⟩:=HH.out _ (hw0.trans (hr0.trans kk)); go_simp; first | done | with_reducible rfl)
    try simp only[Act.put,Reg.l1,Reg.l2,Reg.l3]
    refine Reg.wpG_done (by kernel_rfl) (fun we ke se => ?_) _
    have hr0:=hr0.trans ke
    clear ke
    have hq1:=hr0.size
    go_wp2_with (go_at_call 153; (with_reducible refine (LC.out _ (hw0.trans hr0)).mono ?_); rintro e w1 (⟨l,us1,_,x1,rfl,⟨k1,k2⟩,h1,o1⟩ | ⟨p,er,x1,rfl,o1⟩); obtain⟨A,c,rfl⟩:=k1.form; have HZ1:=lH (o1.bx (HZ.out.since hr0) (Nat.ne_of_gt hlt)); obtain⟨e0,e1,e2,e3⟩:=HZ1.out.four; obtain⟨f0,f1,f2,f3⟩:=HZ1.out.four')
    case inr=>exact⟨rfl,.inr ⟨_,_,by simp only[bnd,R.bind,x1],rfl,(Only.of (hw0.trans hr0)).trans o1⟩⟩
    go_wp2
    have B:=(HZ1.out.put4 (.int .i64 4) (.int .i64 0) (.string ⟨#[]⟩) (.slice A l.length c))
    obtain⟨p0,p1,p2,p3⟩:=B.four
    unfold put4 at p0 p1 p2 p3
    obtain⟨k3,k4⟩:=Got.cell4 (u0:=.int .i64 4) (u1:=.int .i64 0) (u2:=.string ⟨#[]⟩) (u3:=.slice A l.length c) ((Only.of (hw0.trans hr0)).trans o1) (Nat.le_refl _) HZ1.out h1 hlt
    have kg:w1.grownBy (put4 w1 w.heap.size (.int .i64 4) (.int .i64 0) (.string ⟨#[]⟩) (.slice A l.length c)) (some w.heap.size):=(((Only.set (b:=w.heap.size) (Only.refl _ _) _).set _).set _).set _
    have k5:=k1.kept (Q':=QP) kg (G:=fun x=>x=w.heap.size) (fun x hx=>by injection hx with hx; exact hx.symm) (fun x u h=>h) (k2.mono (fun x hx=>by subst hx; show _<_; omega))
    have k6:FarO (Old w) (.slice A l.length c):=k2.mono (fun x (hx:x<w.heap.size)=>by show _<_; omega)
    refine bodyPost_ret (v:=.agg #[.int .i64 4,.int .i64 0,.string ⟨#[]⟩,.slice A l.length c]) ?_ rfl ?_
    · simp[results,Tryz.results155,go_sem,p0,p1,p2,p3]
    first | exact .inl ⟨⟨4,0,nos,l⟩,us1,_,by simp only[bnd,R.bind,ret,x1,Bool.false_eq_true,if_false,if_true],rfl,⟨A,c,rfl,k5,k6⟩,by first | exact k4 | exact k4.since (Since.drew (Since.refl _)),by first | exact k3 | exact k3.drew⟩ | exact .inl ⟨⟨4,0,nos,l⟩,us1,_,by simp only[bnd,R.bind,ret,x1,Bool.false_eq_true,if_false,if_true],rfl,⟨A,c,rfl,k5.since stP (Since.drew (Since.refl _)),k6⟩,by first | exact k4 | exact k4.since (Since.drew (Since.refl _)),by first | exact k3 | exact k3.drew⟩
  · have hi91:isW [91] (t :: r)=false:=by simp[isW,hq]
    have hz:(t.s.toList == [91])=false:=by rw[toL]; rw[beq_eq_false_iff_ne]; exact hq
    rw[show exprE n (t :: r)=bnd plain (fun p=>ret p.xp) n (t :: r) from if_neg (by rw[hi91]; exact Bool.false_ne_true)]
    clear hq hi91
    go_enter Tryz.func155,Tryz.ntmps155
    go_wp2
    rw[← HW.out]
    have hr0:Since W1 W1.drew:=Since.drew (Since.refl W1)
    refine Reg.wp_region_G (S:=fun _=>True) (fun j => [].contains j) (by kernel_rfl) trivial ?_
    refine' Reg.tk (i:=0) (oi:=⟨some 3,.move (.tmp 0),116,"expr.go:40",#[],none⟩) (v:=_) [1,2,3,4,5,6,7,8,9,10,11,12,13,14,15,16] [] (Or.inl ⟨by rfl,Or.inl ?hy24⟩) ?r_24
    case hy24=>(intro w' kk ss; obtain⟨h0,h1,q0,q1,q2,q3⟩:=HH.out _ (hw0.trans (hr0.trans kk)); go_simp; first | done | with_reducible rfl)
    try simp only[Act.put,Reg.l1,Reg.l2,Reg.l3]
    refine Reg.tk (i:=1) (oi:=⟨some 4,.call ⟨.value (.func 94),#[.tmp 3],#[116]⟩,4,"expr.go:40",#[⟨0,.data⟩],none⟩) (v:=.bool false) [2,3,4,5,6,7,8,9,10,11,12,13,14,15,16] [] (Or.inl ⟨by rfl,Or.inr ⟨94,#[.pointer (some ⟨b,0,none⟩)],fun w' kk ss=>⟨?_,?_⟩⟩⟩) ?_
    · (try dsimp only at ss); go_simp
    · exact (D.out w' (hw0.trans (hr0.trans kk))).mono fun e w'' h=>⟨h.1,h.2,trivial⟩
    try simp only[Act.put,Reg.l1,Reg.l2,Reg.l3]
    refine' Reg.tk (i:=2) (oi:=⟨some 5,.unOp .not 4 (.tmp 4),4,"expr.go:40",#[⟨1,.data⟩],none⟩) (v:=_) [3,4,5,6,7,8,9,10,11,12,13,14,15,16] [] (Or.inl ⟨by rfl,Or.inl ?hy25⟩) ?r_25
    case hy25=>(intro w' kk ss; obtain⟨h0,h1,q0,q1,q2,q3⟩:=HH.out _ (hw0.trans (hr0.trans kk)); go_simp; first | done | with_reducible rfl)
    try simp only[Act.put,Reg.l1,Reg.l2,Reg.l3]
    refine' Reg.tk (i:=3) (oi:=⟨some 6,.move (.tmp 5),4,"expr.go:40",#[⟨2,.data⟩,⟨1,.chain⟩],none⟩) (v:=_) [4,5,6,7,8,9,10,11,12,13,14,15,16] [] (Or.inl ⟨by rfl,Or.inl ?hy26⟩) ?r_26
    case hy26=>(intro w' kk ss; obtain⟨h0,h1,q0,q1,q2,q3⟩:=HH.out _ (hw0.trans (hr0.trans kk)); go_simp; first | done | with_reducible rfl)
    try simp only[Act.put,Reg.l1,Reg.l2,Reg.l3]
    refine' Reg.tk (i:=4) (oi:=⟨some 7,.move (.tmp 0),116,"expr.go:40",#[⟨3,.guard⟩],some (3,true)⟩) (v:=_) [5,6,7,12,13,14,15,16] [] (Or.inl ⟨by rfl,Or.inl ?hy27⟩) ?r_27
    case hy27=>(intro w' kk ss; obtain⟨h0,h1,q0,q1,q2,q3⟩:=HH.out _ (hw0.trans (hr0.trans kk)); go_simp; first | done | with_reducible rfl)
    try simp only[Act.put,Reg.l1,Reg.l2,Reg.l3]
    refine' Reg.tk (i:=5) (oi:=⟨some 8,.nilCheck (.tmp 7),0,"expr.go:40",#[⟨4,.data⟩,⟨3,.guard⟩],some (3,true)⟩) (v:=_) [6,7,12,13,14,15,16] [] (Or.inl ⟨by rfl,Or.inl ?hy28⟩) ?r_28
    case hy28=>(intro w' kk ss; obtain⟨h0,h1,q0,q1,q2,q3⟩:=HH.out _ (hw0.trans (hr0.trans kk)); go_simp; first | done | with_reducible rfl)
    try simp only[Act.put,Reg.l1,Reg.l2,Reg.l3]
    refine' Reg.tk (i:=6) (oi:=⟨some 9,.fieldAddr 88 (.tmp 8) 0,0,"expr.go:40",#[⟨5,.data⟩,⟨3,.guard⟩],some (3,true)⟩) (v:=_) [7,12,13,14,15,16] [] (Or.inl ⟨by rfl,Or.inl ?hy29⟩) ?r_29
    case hy29=>(intro w' kk ss; obtain⟨h0,h1,q0,q1,q2,q3⟩:=HH.out _ (hw0.trans (hr0.trans kk)); go_simp; first | done | with_reducible rfl)
    try simp only[Act.put,Reg.l1,Reg.l2,Reg.l3]
    refine' Reg.tk (i:=7) (oi:=⟨some 10,.load 54 (.tmp 9),54,"expr.go:40",#[⟨6,.data⟩,⟨3,.guard⟩],some (3,true)⟩) (v:=_) [12,13,14,15,16] [] (Or.inl ⟨by rfl,Or.inl ?hy30⟩) ?r_30
    case hy30=>(intro w' kk ss; obtain⟨h0,h1,q0,q1,q2,q3⟩:=HH.out _ (hw0.trans (hr0.trans kk)); go_simp; first | done | with_reducible rfl)
    try simp only[Act.put,Reg.l1,Reg.l2,Reg.l3]
    refine' Reg.tk (i:=8) (oi:=⟨some 11,.move (.tmp 0),116,"expr.go:40",#[⟨3,.guard⟩],some (3,true)⟩) (v:=_) [9,10,11,12,13,14,15,16] [] (Or.inl ⟨by rfl,Or.inl ?hy31⟩) ?r_31
    case hy31=>(intro w' kk ss; obtain⟨h0,h1,q0,q1,q2,q3⟩:=HH.out _ (hw0.trans (hr0.trans kk)); go_simp; first | done | with_reducible rfl)
    try simp only[Act.put,Reg.l1,Reg.l2,Reg.l3]
    refine' Reg.tk (i:=9) (oi:=⟨some 12,.nilCheck (.tmp 11),0,"expr.go:40",#[⟨8,.data⟩,⟨3,.guard⟩],some (3,true)⟩) (v:=_) [10,11,12,13,14,15,16] [] (Or.inl ⟨by rfl,Or.inl ?hy32⟩) ?r_32
    case hy32=>(intro w' kk ss; obtain⟨h0,h1,q0,q1,q2,q3⟩:=HH.out _ (hw0.trans (hr0.trans kk)); go_simp; first | done | with_reducible rfl)
    try simp only[Act.put,Reg.l1,Reg.l2,Reg.l3]
    refine' Reg.tk (i:=10) (oi:=⟨some 13,.fieldAddr 88 (.tmp 12) 1,0,"expr.go:40",#[⟨9,.data⟩,⟨3,.guard⟩],some (3,true)⟩) (v:=_) [11,12,13,14,15,16] [] (Or.inl ⟨by rfl,Or.inl ?hy33⟩) ?r_33
    case hy33=>(intro w' kk ss; obtain⟨h0,h1,q0,q1,q2,q3⟩:=HH.out _ (hw0.trans (hr0.trans kk)); go_simp; first | done | with_reducible rfl)
    try simp only[Act.put,Reg.l1,Reg.l2,Reg.l3]
    refine' Reg.tk (i:=11) (oi:=⟨some 14,.load 3 (.tmp 13),3,"expr.go:40",#[⟨10,.data⟩,⟨3,.guard⟩],some (3,true)⟩) (v:=_) [12,13,14,15,16] [] (Or.inl ⟨by rfl,Or.inl ?hy34⟩) ?r_34
    case hy34=>(intro w' kk ss; obtain⟨h0,h1,q0,q1,q2,q3⟩:=HH.out _ (hw0.trans (hr0.trans kk)); go_simp; first | done | with_reducible rfl)
    try simp only[Act.put,Reg.l1,Reg.l2,Reg.l3]
    refine' Reg.tk (i:=12) (oi:=⟨some 15,.indexAddr 54 (.tmp 10) (.tmp 14),0,"expr.go:40",#[⟨7,.data⟩,⟨11,.data⟩,⟨3,.guard⟩],some (3,true)⟩) (v:=_) [13,14,15,16] [] (Or.inl ⟨by rfl,Or.inl ?hy35⟩) ?r_35
    case hy35=>(intro w' kk ss; obtain⟨h0,h1,q0,q1,q2,q3⟩:=HH.out _ (hw0.trans (hr0.trans kk)); go_simp; first | done | with_reducible rfl)
    try simp only[Act.put,Reg.l1,Reg.l2,Reg.l3]
    refine' Reg.tk (i:=13) (oi:=⟨some 16,.fieldAddr 76 (.tmp 15) 1,0,"expr.go:40",#[⟨12,.data⟩,⟨3,.guard⟩],some (3,true)⟩) (v:=_) [14,15,16] [] (Or.inl ⟨by rfl,Or.inl ?hy36⟩) ?r_36
    case hy36=>(intro w' kk ss; obtain⟨h0,h1,q0,q1,q2,q3⟩:=HH.out _ (hw0.trans (hr0.trans kk)); go_simp; first | done | with_reducible rfl)
    try simp only[Act.put,Reg.l1,Reg.l2,Reg.l3]
    refine' Reg.tk (i:=14) (oi:=⟨some 17,.load 9 (.tmp 16),9,"expr.go:40",#[⟨13,.data⟩,⟨3,.guard⟩],some (3,true)⟩) (v:=_) [15,16] [] (Or.inl ⟨by rfl,Or.inl ?hy37⟩) ?r_37
    case hy37=>(intro w' kk ss; obtain⟨h0,h1,q0,q1,q2,q3⟩:=HH.out _ (hw0.trans (hr0.trans kk)); go_simp; first | done | with_reducible rfl)
    try simp only[Act.put,Reg.l1,Reg.l2,Reg.l3]
    refine' Reg.tk (i:=15) (oi:=⟨some 18,.binOp .eql 9 (.tmp 17) (.const (.string { data:=#[91] })) 9,4,"expr.go:40",#[⟨14,.data⟩,⟨3,.guard⟩],some (3,true)⟩) (v:=_) [16] [] (Or.inl ⟨by rfl,Or.inl ?hy38⟩) ?r_38
    case hy38=>(intro w' kk ss; obtain⟨h0,h1,q0,q1,q2,q3⟩:=HH.out _ (hw0.trans (hr0.trans kk)); go_simp; first | done | with_reducible rfl)
    try simp only[Act.put,Reg.l1,Reg.l2,Reg.l3]
    refine' Reg.tk (i:=16) (oi:=⟨some 19,.pick (.tmp 6) (.tmp 18) (.const (.bool false)),4,"expr.go:40",#[⟨3,.data⟩,⟨15,.data⟩],none⟩) (v:=_) [] [] (Or.inl ⟨by rfl,Or.inl ?hy39⟩) ?r_39
    case hy39=>(intro w' kk ss; obtain⟨h0,h1,q0,q1,q2,q3⟩:=HH.out _ (hw0.trans (hr0.trans kk)); go_simp; first | done | with_reducible rfl)
    try simp only[Act.put,Reg.l1,Reg.l2,Reg.l3]
    refine Reg.wpG_done (by kernel_rfl) (fun we ke se => ?_) _
    have hr0:=hr0.trans ke
    clear ke
    go_wp2_with (go_at_call 150; (with_reducible refine (PC.out _ (hw0.trans hr0)).mono ?_); rintro e w1 (⟨p,us1,_,x1,rfl,rfl,h1,o1⟩ | ⟨p,er,x1,rfl,o1⟩); have HZ1:=lH (o1.bx (HZ.out.since hr0) (Nat.ne_of_gt hlt)); obtain⟨e0,e1,e2,e3⟩:=HZ1.out.four; obtain⟨f0,f1,f2,f3⟩:=HZ1.out.four')
    case inr=>exact⟨rfl,.inr ⟨_,_,by simp only[bnd,R.bind,x1],rfl,(Only.of (hw0.trans hr0)).trans o1⟩⟩
    go_wp2
    have B:=(HZ1.out.put4 (.int .i64 p.k) (.int .i64 p.n) (.string p.s) (.slice none 0 0))
    obtain⟨p0,p1,p2,p3⟩:=B.four
    unfold put4 at p0 p1 p2 p3
    obtain⟨k3,k4⟩:=Got.cell4 (u0:=.int .i64 p.k) (u1:=.int .i64 p.n) (u2:=.string p.s) (u3:=.slice none 0 0) ((Only.of (hw0.trans hr0)).trans o1) (Nat.le_refl _) HZ1.out h1 hlt
    refine bodyPost_ret (v:=.agg #[.int .i64 p.k,.int .i64 p.n,.string p.s,.slice none 0 0]) ?_ rfl ?_
    · simp[results,Tryz.results155,go_sem,p0,p1,p2,p3]
    exact .inl ⟨p.xp,us1,_,by simp only[bnd,R.bind,ret,x1,Bool.false_eq_true,if_false,if_true],rfl,⟨none,0,rfl,Sl.nil _ _ _,FarO.no⟩,by first | exact k4 | exact k4.since (Since.drew (Since.refl _)),by first | exact k3 | exact k3.drew⟩
end Go.Proofs.YtjmmcnldfkjebaaGreatDoor.Prs
namespace Go.Proofs.YtjmmcnldfkjebaaGreatDoor.Prs
open Go.RowKit
set_option linter.unusedVariables false
set_option linter.unusedSimpArgs false
open Dig Lx Tk Ps Ti
theorem seriesX_any (b:Nat) (n:Int) (ts:Ts) (close:ByteArray) (most:Nat) (w:World) (h0:Rd b n ts w) (hm:most≤1000) :
 Calls Tryz.prog 168 #[.pointer (some ⟨b,0,none⟩),.string close,.int .i64 (most:Int),.func (.func 155) #[.pointer (some ⟨b,0,none⟩)] #[]] w
  (Got (fun w' l v=>Sl 4 (QX (Old w)) w' v l∧FarO (Old w) v) b n (serD (exprE) close most (most+1) [] n ts) w):=by
 obtain⟨r,hr⟩:∃ r,r=serD (exprE) close most (most+1) [] n ts:=⟨_,rfl⟩
 rw[← hr]
 have HR:=lH hr
 clear hr
 obtain⟨i0,hi,hz0,hz1,hz2⟩:=info_parts info_pexpr
 have hlt:=h0.lt
 have H0:=lH h0
 clear h0
 go_enter Tryz.func168,Tryz.ntmps168
 go_wp2
 go_loopw [9] (fun out wr=>∃ (k:Nat) (A:Option Addr) (c:Nat) (xs:List (Xp)) (cs:List Value) (us:Ts),out = .slice A k c∧k≤most∧Hid (xs.length=k)∧Hid (wr.ownsRow w.heap.size 93 4 (.slice A k c) k cs)∧Hid (Rws 4 (QX (own (Old w) (.slice A k c)) wr) xs cs)∧Hid (serD (exprE) close most (most+1 - k) xs n us=r)∧Hid (Rd b n us wr)∧Hid (Only b w wr)) (fun out _=>most+1 - lenV out)
 case atStart=>exact⟨0,none,0,[],[],ts,rfl,Nat.zero_le _,rfl,World.ownsRow_nil _ _ _ _,.nil,HR.out.symm,H0.out,Only.refl _ _⟩
 case round =>
  clear H0
  obtain⟨k,A,c,xs,cs,us,rfl,hk,HX,HO,HQ,HE,HD,HW⟩:=hrel
  obtain⟨f,hf⟩:∃ f,most+1 - k=f+1:=⟨most - k,by omega⟩
  have he:=HE.out
  rw[hf] at he
  have HE1:=lH he
  clear he HE
  by_cases hmost:k=most
  · have hz:((k:Int) == (most:Int))=true:=by rw[beq_iff_eq]; omega
    have HB:=lH (HE1.out.symm.trans (serD_big (HX.out.trans hmost)))
    have PL:=lH (fun W (k:Since wr W)=>place_any b n us W (HD.out.since k))
    clear hmost HE1
    go_wp2_with (go_at_call 95; (with_reducible refine (PL.out _ (Since.refl _)).mono ?_); rintro e w1 ⟨rfl,hs1⟩)
    exact⟨rfl,.inr ⟨_,_,HB.out,rfl,HW.out.trans (.of hs1)⟩⟩
  have hz:((k:Int) == (most:Int))=false:=by rw[beq_eq_false_iff_ne]; omega
  have hne:xs.length≠most:=by rw[HX.out]; exact hmost
  have HN:=lH hne
  have hk1:k+1≤most:=by omega
  clear hmost hne
  have hd:=HD.out
  have EC:=lH (expr_any b n us wr hd)
  go_wp2_with (first
   | (go_at_call 155; (with_reducible refine EC.out.mono ?_); rintro e w1 (⟨x,us1,_,x1,rfl,⟨A1,c1,rfl,k1,k2⟩,h1,o1⟩ | ⟨p,er,x1,rfl,o1⟩))
   | (at_builtin; refine wpList_append_own_at _ rfl _ _ 40 rfl w.heap.size 93 i0 (.agg #[.int .i64 0,.int .i64 0,.string ⟨#[]⟩,.slice none 0 0]) 4 56 Tryz.underlying40 hi hz0 hz1 hz2 rfl (by decide) _ _ _ rfl (owns_since (owns_only HO.out o1 hlt) (sA _ _)) ⟨w1.heap.size,0,none⟩ 1 1 [.int .i64 x.k,.int .i64 x.n,.string x.s,.slice A1 x.l.length c1] rfl rfl ?c1 ?c2 ?c3 ?c4 ?c5 ?_))
  case inr=>exact⟨rfl,.inr ⟨_,_,HE1.out.symm.trans (serD_bad HN.out x1),rfl,HW.out.trans o1⟩⟩
  case c1 =>
   intro j u hj
   exact cell_new _ _ _ rfl (by simpa using hj)
  case c2=>intro u hu; simp at hu; rcases hu with rfl | rfl | rfl | rfl <;> rfl
  case c3=>unfold maxLen; omega
  case c4=>omega
  case c5=>have:=HW.out.size; have:=o1.size; simp; omega
  intro v' w2 hown' hgrow _ hat
  have hgo:∀ g,(Value.slice A k c).ownBlock=some g→w.heap.size≤g:=fun g hg=>(HO.out.lt g hg).1
  have hw2:Only b w w2:=((HW.out.trans o1).alloc _).app hgrow hgo
  have hd2:Rd b n us1 w2:=(h1.since (sA _ _)).grow hgrow (fun g hg=>by have:=hgo g hg; omega)
  have hxn:QX (own (Old w) (.slice A k c)) w1 x [.int .i64 x.k,.int .i64 x.n,.string x.s,.slice A1 x.l.length c1]:=⟨_,rfl,k1,k2.mono (fun g hg=>by rcases hg with hg | hg; exact Nat.lt_of_lt_of_le hg HW.out.size; exact (HO.out.lt g hg).2)⟩
  have hq0:Rws 4 (QX (own (Old w) (.slice A k c)) w1) xs cs:=HQ.out.mono fun x u h=>QX.grow o1 (fun x hx=>by injection hx with hx; subst hx; exact .inl hlt) (fun b hb => .inl hb) h
  have hq1:Rws 4 (QX (own (Old w) v') w2) (xs ++ [x]) (cs ++ [.int .i64 x.k,.int .i64 x.n,.string x.s,.slice A1 x.l.length c1]):=Rws.mono (fun x u h=>QX.grow hgrow own.has (own.app (hat.imp id fun e=>e.trans (by simp))) h) ((hq0.snoc hxn rfl).since (stX _) (sA _ _))
  clear hxn hq0 k1 k2
  have ho1:w2.ownsRow w.heap.size 93 4 v' (k+1) (cs ++ [.int .i64 x.k,.int .i64 x.n,.string x.s,.slice A1 x.l.length c1]):=hown'
  clear hown' hgrow hat hgo
  obtain⟨A',c',rfl⟩:=owns_slice ho1
  have HO1:=lH ho1
  have HQ1:=lH hq1
  clear ho1 hq1
  have hx1:(xs ++ [x]).length=k+1:=by rw[List.length_append,HX.out]; rfl
  go_wp2_with (first | (go_at_call 96; (with_reducible refine (choose2 hd2 (by simp) _ _ _).mono ?_); rintro e w3 (⟨s,us3,_,x3,rfl,rfl,h3,o3⟩ | ⟨p,er,x3,rfl,o3⟩)))
  case inr=>exact⟨rfl,.inr ⟨_,_,HE1.out.symm.trans (serD_mid HN.out x1 x3),rfl,hw2.trans o3⟩⟩
  all_goals first
   | (go_ret; rename_i hq; exact .inl ⟨xs ++ [x],us3,_,HE1.out.symm.trans (serD_end HN.out x1 x3 hq),rfl,⟨(Sl.own (owns_only HO1.out o3 hlt) (HQ1.out.mono fun x u h=>QX.grow o3 (fun x hx=>by injection hx with hx; subst hx; exact .inl hlt) (fun b hb => .inl hb) h) hx1.symm).mono (fun x u=>QX.less (fun b hb => .inl (.inl hb))),FarO.own (owns_only HO1.out o3 hlt) (fun b hb=>hb)⟩,h3,hw2.trans o3⟩)
   | skip
  all_goals
   rename_i hq
   go_roundw
   case rel=>exact⟨k+1,A',c',xs ++ [x],_,us3,rfl,hk1,hx1,owns_only HO1.out o3 hlt,HQ1.out.mono (fun x u h=>QX.grow o3 (fun x hx=>by injection hx with hx; subst hx; exact .inl hlt) (fun b hb => .inl hb) h),by have:=(serD_more HN.out x1 x3 hq).symm.trans HE1.out; rwa [show f=most+1 - (k+1) by omega] at this,h3,hw2.trans o3⟩
   case measure=>simp[lenV]; omega
theorem seriesX_64 (b:Nat) (n:Int) (ts:Ts) (close:ByteArray) (w:World) (h0:Rd b n ts w) :
 Calls Tryz.prog 168 #[.pointer (some ⟨b,0,none⟩),.string close,.int .i64 64,.func (.func 155) #[.pointer (some ⟨b,0,none⟩)] #[]] w
  (Got (fun w' l v=>Sl 4 (QX (Old w)) w' v l∧FarO (Old w) v) b n (serD (exprE) close 64 65 [] n ts) w):=seriesX_any b n ts close 64 w h0 (by decide)
theorem exprsX_any (b:Nat) (n:Int) (ts:Ts) (close:ByteArray) (w:World) (h0:Rd b n ts w) :
 Calls Tryz.prog 154 #[.pointer (some ⟨b,0,none⟩),.string close,.func (.func 155) #[.pointer (some ⟨b,0,none⟩)] #[]] w
  (Got (fun w' l v=>Sl 4 (QX (Old w)) w' v l∧FarO (Old w) v) b n (exprsD (exprE) close n ts) w):=by
 obtain⟨r,hr⟩:∃ r,r=exprsD (exprE) close n ts:=⟨_,rfl⟩
 rw[← hr]
 have HR:=lH hr
 clear hr
 go_enter Tryz.func154,Tryz.ntmps154
 go_wp2_with (first
  | (go_at_call 147; (with_reducible refine (skip_any b n _ _ _ h0).mono ?_); rintro e w1 (⟨q,us1,_,x1,rfl,rfl,h1,o1⟩ | ⟨p,er,x1,rfl,o1⟩); cases q)
  | (go_at_call 168; (with_reducible refine (seriesX_64 b n _ _ _ h1).mono ?_); rintro e w2 (⟨l,us2,_,x2,rfl,⟨k1,k2⟩,h2,o2⟩ | ⟨p,er,x2,rfl,o2⟩)))
 all_goals first
  | (go_ret; exact .inl ⟨l,us2,_,by rw[HR.out]; simp only[exprsD,bnd,R.bind,x1,Bool.false_eq_true,if_false,x2],rfl,⟨k1.mono (fun x u=>QX.less (fun b hb => .inl (Nat.lt_of_lt_of_le hb o1.size))),k2.mono (fun b hb=>Nat.lt_of_lt_of_le hb o1.size)⟩,h2,o1.trans o2⟩)
  | (go_ret; exact .inl ⟨[],us1,_,by rw[HR.out]; simp only[exprsD,bnd,R.bind,x1,if_true,ret],rfl,⟨Sl.nil _ _ _,by rintro b o n c hh; cases hh⟩,h1,o1⟩)
  | (exact⟨rfl,.inr ⟨_,_,by rw[HR.out]; simp only[exprsD,bnd,R.bind,x1,Bool.false_eq_true,if_false,x2],rfl,o1.trans o2⟩⟩)
  | (exact⟨rfl,.inr ⟨_,_,by rw[HR.out]; simp only[exprsD,bnd,R.bind,x1],rfl,o1⟩⟩)
end Go.Proofs.YtjmmcnldfkjebaaGreatDoor.Prs
