/- Layer 7 (show): items of any make as they lie in memory. No code is spoken of. Layer 7 (show): a slice of item -/
import Derived.Deep.DeepCutAuto
import Derived.Lib.SmallJoins
import Derived.Maps.AppendAt
import Derived.Test.YtjmmcnldfkjebaaGreatDoorVy
import Derived.Test.YtjmmcnldfkjebaaGreatDoorOpt
import Derived.Test.YtjmmcnldfkjebaaGreatDoorUc
set_option maxHeartbeats 4000000
set_option maxRecDepth 100000
namespace Go.Proofs.YtjmmcnldfkjebaaGreatDoor.Sh
open Go.RowKit
set_option linter.unusedVariables false
set_option linter.unusedSimpArgs false
open Dig Lx Tk Ps Ti
def dlen:Nat→Nat
 | 0=>0
 | 1=>1
 | k+2=>k+1
def QZ (w:World) (_:Unit) (u:List Value):Prop:=u = [.int .i64 0,.int .i64 0,.string nos,.slice none 0 0]
theorem stZ:St QZ:=fun w w' x u h k=>h
def QPq (G:Nat→Prop) (w:World) (p:Pq) (u:List Value):Prop:=∃ A c,u = [.int .i64 p.k,.int .i64 p.n,.string p.s,.slice A (dlen p.d) c]∧(p.d=1→Sl 4 QZ w (.slice A 1 c) [()]∧FarO G (.slice A 1 c))
def QXq (G:Nat→Prop) (w:World) (x:Xq) (u:List Value):Prop:=∃ v,u = [.int .i64 x.k,.int .i64 x.n,.string x.s,v]∧Sl 4 (QPq G) w v x.l∧FarO G v
def QIq (G:Nat→Prop) (w:World) (x:Iq) (u:List Value):Prop:=
 ∃ d v,u = [.int .i64 x.kind,.string x.name,.bool x.bool,d,.int .i64 x.size,.bool x.out,v,.int .i64 x.ask]∧Sl 2 QR w d x.dom∧FarO G d∧Sl 4 (QXq G) w v x.vals∧FarO G v
theorem stPq (G:Nat→Prop):St (QPq G):=fun w w' x u ⟨A,c,h1,h2⟩ k=>⟨A,c,h1,fun e=>⟨(h2 e).1.since stZ k,(h2 e).2⟩⟩
theorem stXq (G:Nat→Prop):St (QXq G):=fun w w' x u ⟨v,h1,h2,h3⟩ k=>⟨v,h1,h2.since (stPq G) k,h3⟩
theorem stIq (G:Nat→Prop):St (QIq G):=fun w w' x u ⟨d,v,h1,h2,h3,h4,h5⟩ k=>⟨d,v,h1,h2.since stR k,h3,h4.since (stXq G) k,h5⟩
theorem QPq.less {G G':Nat→Prop} {w:World} (hG:∀ b,G' b→G b∨w.heap.size≤b) {x:Pq} {u:List Value} (h:QPq G w x u):QPq G' w x u:=by
 obtain⟨A,c,h1,h2⟩:=h
 exact⟨A,c,h1,fun e=>⟨(h2 e).1,((h2 e).2.or (FarO.new (G:=fun b=>w.heap.size≤b) (h2 e).1 (by decide) (fun b hb=>hb))).mono hG⟩⟩
theorem QPq.none {G:Nat→Prop} {w:World} {x:Pq} {u:List Value} (h:QPq G w x u):QPq noG w x u:=h.less fun b hb=>hb.elim
theorem QPq.grow {g:Option Nat} {G G':Nat→Prop} {w w':World} (k:w.grownBy w' g) (hg:∀ b,g=some b→G b) (hG:∀ b,G' b→G b∨w.heap.size≤b) {x:Pq} {u:List Value} (h:QPq G w x u):QPq G' w' x u:=by
 obtain⟨A,c,h1,h2⟩:=h
 exact⟨A,c,h1,fun e=>⟨(h2 e).1.kept k hg (fun x u h=>h) (h2 e).2,((h2 e).2.or (FarO.new (G:=fun b=>w.heap.size≤b) (h2 e).1 (by decide) (fun b hb=>hb))).mono hG⟩⟩
theorem slZ {w:World} {b:Nat} (h:Box w b [.int .i64 0,.int .i64 0,.string nos,.slice none 0 0]):Sl 4 QZ w (.slice (some ⟨b,0,none⟩) 1 1) [()]:=by
 refine⟨some ⟨b,0,none⟩,1,rfl,Nat.le_refl _,fun _=>⟨b,0,rfl,fun i x hx => ?_⟩⟩
 cases i with
 | succ i=>simp at hx
 | zero =>
  refine⟨_,rfl,rfl,fun j y hy => ?_⟩
  have:=h j y hy
  simpa using this
theorem QXq.less {G G':Nat→Prop} {w:World} (hG:∀ b,G' b→G b∨w.heap.size≤b) {x:Xq} {u:List Value} (h:QXq G w x u):QXq G' w x u:=by
 obtain⟨v,h1,h2,h3⟩:=h
 exact⟨v,h1,h2.mono (fun x u=>QPq.less hG),(h3.or (FarO.new (G:=fun b=>w.heap.size≤b) h2 (by decide) (fun b hb=>hb))).mono hG⟩
theorem QIq.less {G G':Nat→Prop} {w:World} (hG:∀ b,G' b→G b∨w.heap.size≤b) {x:Iq} {u:List Value} (h:QIq G w x u):QIq G' w x u:=by
 obtain⟨d,v,h1,h2,h3,h4,h5⟩:=h
 exact⟨d,v,h1,h2,(h3.or (FarO.new (G:=fun b=>w.heap.size≤b) h2 (by decide) (fun b hb=>hb))).mono hG,h4.mono (fun x u=>QXq.less hG),(h5.or (FarO.new (G:=fun b=>w.heap.size≤b) h4 (by decide) (fun b hb=>hb))).mono hG⟩
theorem QXq.none {G:Nat→Prop} {w:World} {x:Xq} {u:List Value} (h:QXq G w x u):QXq noG w x u:=h.less fun b hb=>hb.elim
theorem QIq.none {G:Nat→Prop} {w:World} {x:Iq} {u:List Value} (h:QIq G w x u):QIq noG w x u:=h.less fun b hb=>hb.elim
theorem QXq.grow {g:Option Nat} {G G':Nat→Prop} {w w':World} (k:w.grownBy w' g) (hg:∀ b,g=some b→G b) (hG:∀ b,G' b→G b∨w.heap.size≤b) {x:Xq} {u:List Value} (h:QXq G w x u):QXq G' w' x u:=by
 obtain⟨v,h1,h2,h3⟩:=h
 exact⟨v,h1,h2.kept k hg (fun x u h=>QPq.grow k hg hG h) h3,(h3.or (FarO.new (G:=fun b=>w.heap.size≤b) h2 (by decide) (fun b hb=>hb))).mono hG⟩
theorem QIq.grow {g:Option Nat} {G G':Nat→Prop} {w w':World} (k:w.grownBy w' g) (hg:∀ b,g=some b→G b) (hG:∀ b,G' b→G b∨w.heap.size≤b) {x:Iq} {u:List Value} (h:QIq G w x u):QIq G' w' x u:=by
 obtain⟨d,v,h1,h2,h3,h4,h5⟩:=h
 exact⟨d,v,h1,h2.kept k hg (fun x u h=>h) h3,(h3.or (FarO.new (G:=fun b=>w.heap.size≤b) h2 (by decide) (fun b hb=>hb))).mono hG,
  h4.kept k hg (fun x u h=>QXq.grow k hg hG h) h5,(h5.or (FarO.new (G:=fun b=>w.heap.size≤b) h4 (by decide) (fun b hb=>hb))).mono hG⟩
theorem QIq.one {G:Nat→Prop} {w:World} {x:Iq} {u:List Value} (h:QIq G w x u):∀ y ∈ u,y.oneCell'=true:=by
 obtain⟨d,v,rfl,h2,-,h4,-⟩:=h
 obtain⟨A1,c1,rfl⟩:=h2.form
 obtain⟨A2,c2,rfl⟩:=h4.form
 intro y hy
 simp only[List.mem_cons,List.not_mem_nil,or_false] at hy
 rcases hy with rfl | rfl | rfl | rfl | rfl | rfl | rfl | rfl <;> rfl
theorem sl_map {α β:Type} {size:Nat} {Q:World→α→List Value→Prop} {Q':World→β→List Value→Prop} (f:α→β) {w:World} (hQ:∀ x u,Q w x u→Q' w (f x) u) {v:Value} {xs:List α} (h:Sl size Q w v xs):Sl size Q' w v (xs.map f):=by
 obtain⟨A,c,h1,h2,h3⟩:=h
 refine⟨A,c,by simpa using h1,by simpa using h2,fun hl => ?_⟩
 obtain⟨b,o,h4,h5⟩:=h3 (by simpa using hl)
 refine⟨b,o,h4,fun i y hy => ?_⟩
 rw[List.getElem?_map] at hy
 cases hx:xs[i]? with
 | none=>rw[hx] at hy; cases hy
 | some x =>
  rw[hx] at hy
  simp only[Option.map_some,Option.some.injEq] at hy
  subst hy
  obtain⟨u,h6,h7,h8⟩:=h5 i x hx
  exact⟨u,hQ x u h6,h7,h8⟩
abbrev ItemsQ (w:World) (v:Value) (xs:List Iq):Prop:=Sl 8 (QIq noG) w v xs
end Go.Proofs.YtjmmcnldfkjebaaGreatDoor.Sh
namespace Go.Proofs.YtjmmcnldfkjebaaGreatDoor.Sh
open Go.RowKit Go.ChangeShapes Go.WideShapes Go.Deep
set_option linter.unusedVariables false
set_option linter.unusedSimpArgs false
open Dig Lx Tk Ps Ti
section
variable {H:Type} {enc:TypeId × Value→H} {P:Program} {w:World} {base:Nat} {spare:Nat→Bool} {held:Bool}
theorem slice_in {α:Type} (dflt:α) {size:Nat} (hs:0<size) (Q:World→α→List Value→Prop) (R:α→Prop) {t e:TypeId} {fuel:Nat} {a:Option Addr} {len cap:Nat} {x:DataW H × List MemPlace} (ht:P.underlying t=some (.slice e)) (hC:P.cellsOf e=size)
 (el:∀ (n:Nat) (cs:List Value) (y:DataW H × List MemPlace),cs.length=size→DataW.trod enc P w base spare held n e cs=some y→∃ z,Q w z cs∧R z)
 (h:DataW.trod enc P w base spare held fuel t [.slice a len cap]=some x):∃ l:List α,l.length=len∧Sl size Q w (.slice a len cap) l∧(∀ z ∈ l,R z)∧l.length≤maxLen:=by
 rcases open_slice ht h with ⟨h0,_⟩ | ⟨ad,l,c,m,n,D,Pl,hcs,hb,hl,hm,hmm,hx,hi⟩
 · injection h0 with h0
   injection h0 with h1 h2 h3
   subst h1 h2 h3
   exact⟨[],rfl,Sl.nil _ _ _,by simp,Nat.zero_le _⟩
 · injection hcs with hcs
   injection hcs with h1 h2 h3
   subst h1 h2 h3
   have hlm:len≤m:=by rw[hmm]; split <;> omega
   have key:∀ i,i<len→∃ z:α,∃ u,Q w z u∧R z∧u.length=size∧∀ j v,u[j]?=some v→w.cell? (ad.add (i*size+j))=some v:=by
    intro i hlt
    obtain⟨cs',hc,hd⟩:=hi i (by omega)
    rw[hC] at hc
    obtain⟨_,hcl,hat⟩:=World.cells?_some hc
    obtain⟨z,hz,hr⟩:=el n cs' _ hcl hd
    refine⟨z,cs',hz,hr,hcl,fun j v hv => ?_⟩
    have hj:j<size:=by
     apply Decidable.byContradiction; intro hn
     rw[List.getElem?_eq_none (by omega)] at hv; cases hv
    have:=hat j hj
    rw[Go.Deep.add_add] at this
    rw[this]; exact hv
   obtain⟨ts,hts,hp⟩:=list_of dflt len key
   subst hts
   have hget:∀ i (hi:i<ts.length),ts.getD i dflt=ts[i]:=fun i hi=>by simp[List.getD,hi]
   refine⟨ts,rfl,⟨some ad,cap,rfl,hl,fun h0 => ?_⟩,fun z hz => ?_,by omega⟩
   · obtain⟨b,o,spot⟩:=ad
     have hspot:spot=none:=by
      obtain⟨u,h1,h2,h3,h4⟩:=hp 0 h0
      obtain⟨v,hv⟩:∃ v,u[0]?=some v:=⟨u[0]'(by omega),List.getElem?_eq_getElem (by omega)⟩
      have:=World.cell?_spot (h4 0 v hv)
      simpa [Addr.add] using this
     subst hspot
     refine⟨b,o,rfl,fun i x hx => ?_⟩
     have hi:i<ts.length:=by
      apply Decidable.byContradiction; intro hn
      rw[List.getElem?_eq_none (by omega)] at hx; cases hx
     have ex:ts.getD i dflt=x:=by
      rw[hget i hi]
      rw[List.getElem?_eq_getElem hi] at hx
      exact Option.some.inj hx
     obtain⟨u,h1,h2,h3,h4⟩:=hp i hi
     rw[ex] at h1
     refine⟨u,h1,h3,fun j v hv => ?_⟩
     have:=h4 j v hv
     rw[add_at] at this
     rw[show o+i*size+j=o+(i*size+j) by omega]
     exact this
   · obtain⟨i,hi,rfl⟩:=List.mem_iff_getElem.1 hz
     obtain⟨u,h1,h2,-⟩:=hp i hi
     rw[hget i hi] at h2
     exact h2
theorem wf_fits {n:Int} (h:(Lit.int .i64 n).wf=true):Lx.fits n:=by
 simp only[Lit.wf,Bool.and_eq_true,decide_eq_true_iff] at h
 have e1:IntKind.i64.min = -9223372036854775808:=rfl
 have e2:IntKind.i64.max=9223372036854775807:=rfl
 rw[e1,e2] at h
 exact⟨h.1,by omega⟩
def BdR (z:Int × Int):Prop:=Lx.fits z.1∧Lx.fits z.2
theorem range_in {e:TypeId} {f0 f1:Field} (he:P.underlying e=some (.struct #[f0,f1])) (o0:f0.offset=0) (o1:f1.offset=1) (c0:P.cellsOf f0.type=1) (c1:P.cellsOf f1.type=1)
 (t0:P.underlying f0.type=some (.int .i64)) (t1:P.underlying f1.type=some (.int .i64)) (n:Nat) (cs:List Value) (y:DataW H × List MemPlace) (hl:cs.length=2) (hd:DataW.trod enc P w base spare held n e cs=some y):∃ z,QR w z cs∧BdR z:=by
 obtain⟨ys,n',-,-,-,hyl,hf⟩:=DataW.trod_struct he hd
 match cs,hl with
 | [v0,v1],_ =>
  have g0:=hf 0 f0 rfl
  have g1:=hf 1 f1 rfl
  rw[o0,c0] at g0
  rw[o1,c1] at g1
  simp only[List.drop_zero,List.drop_succ_cons,List.take_succ_cons,List.take_zero] at g0 g1
  have hys:ys.length=2:=hyl
  match ys,hys with
  | [y0,y1],_ =>
   obtain⟨n0,e0,-,q0⟩:=DataW.trod_int t0 (show _=some y0 from g0)
   obtain⟨n1,e1,-,q1⟩:=DataW.trod_int t1 (show _=some y1 from g1)
   injection e0 with e0; injection e1 with e1
   subst e0 e1
   exact⟨(n0,n1),rfl,wf_fits q0,wf_fits q1⟩
theorem expr_in {α:Type} {e:TypeId} {f0 f1 f2 f3:Field} (he:P.underlying e=some (.struct #[f0,f1,f2,f3])) (o0:f0.offset=0) (o1:f1.offset=1) (o2:f2.offset=2) (o3:f3.offset=3)
 (c0:P.cellsOf f0.type=1) (c1:P.cellsOf f1.type=1) (c2:P.cellsOf f2.type=1) (c3:P.cellsOf f3.type=1) (t0:P.underlying f0.type=some (.int .i64)) (t1:P.underlying f1.type=some (.int .i64)) (t2:P.underlying f2.type=some .string) (t3:P.underlying f3.type=some (.slice e))
 {S:Value→α→Prop} (inner:∀ (n a len cap) (y:DataW H × List MemPlace),DataW.trod enc P w base spare held n f3.type [.slice a len cap]=some y→∃ z,S (.slice a len cap) z)
 (n:Nat) (cs:List Value) (y:DataW H × List MemPlace) (hl:cs.length=4) (hd:DataW.trod enc P w base spare held n e cs=some y):∃ (k m:Int) (s:ByteArray) (v:Value) (z:α),cs = [.int .i64 k,.int .i64 m,.string s,v]∧S v z∧s.size≤maxLen∧Lx.fits m:=by
 obtain⟨ys,n',-,-,-,hyl,hf⟩:=DataW.trod_struct he hd
 match cs,hl with
 | [v0,v1,v2,v3],_ =>
  have g0:=hf 0 f0 rfl
  have g1:=hf 1 f1 rfl
  have g2:=hf 2 f2 rfl
  have g3:=hf 3 f3 rfl
  rw[o0,c0] at g0
  rw[o1,c1] at g1
  rw[o2,c2] at g2
  rw[o3,c3] at g3
  simp only[List.drop_zero,List.drop_succ_cons,List.take_succ_cons,List.take_zero] at g0 g1 g2 g3
  have hys:ys.length=4:=hyl
  match ys,hys with
  | [y0,y1,y2,y3],_ =>
   obtain⟨n0,e0,-,q0⟩:=DataW.trod_int t0 (show _=some y0 from g0)
   obtain⟨n1,e1,-,q1⟩:=DataW.trod_int t1 (show _=some y1 from g1)
   obtain⟨s2,e2,-,hs⟩:=DataW.trod_string t2 (show _=some y2 from g2)
   obtain⟨a,len,cap,e3⟩:=Go.Joins.slice_form t3 (show _=some y3 from g3)
   injection e0 with e0; injection e1 with e1; injection e2 with e2; injection e3 with e3
   subst e0 e1 e2 e3
   obtain⟨z,hz⟩:=inner n' a len cap y3 (show _=some y3 from g3)
   exact⟨n0,n1,s2,_,z,rfl,hz,hs,wf_fits q1⟩
def BdP (p:Pq):Prop:=p.s.size≤maxLen∧Lx.fits p.n
def BdX (x:Xq):Prop:=x.s.size≤maxLen∧x.l.length≤maxLen∧(∀ p ∈ x.l,BdP p)∧Lx.fits x.n
def BdI (x:Iq):Prop:=x.name.size≤maxLen∧x.dom.length≤maxLen∧x.vals.length≤maxLen∧(∀ y ∈ x.vals,BdX y)∧(∀ z ∈ x.dom,BdR z)∧Lx.fits x.size
def ItemsIn (w:World) (a:Option Addr) (len cap:Nat) (l:List Iq):Prop:=l.length=len∧ItemsQ w (.slice a len cap) l∧(∀ x ∈ l,BdI x)∧l.length≤maxLen
theorem items_in {ti ei tr er tx ex:TypeId} {g0 g1 g2 g3 g4 g5 g6 g7 f0 f1 f2 f3 r0 r1:Field} {fuel:Nat} {a:Option Addr} {len cap:Nat} {x:DataW H × List MemPlace}
 (hti:P.underlying ti=some (.slice ei)) (hei:P.underlying ei=some (.struct #[g0,g1,g2,g3,g4,g5,g6,g7])) (hCi:P.cellsOf ei=8)
 (go:g0.offset=0∧g1.offset=1∧g2.offset=2∧g3.offset=3∧g4.offset=4∧g5.offset=5∧g6.offset=6∧g7.offset=7)
 (gc:P.cellsOf g0.type=1∧P.cellsOf g1.type=1∧P.cellsOf g2.type=1∧P.cellsOf g3.type=1∧P.cellsOf g4.type=1∧P.cellsOf g5.type=1∧P.cellsOf g6.type=1∧P.cellsOf g7.type=1)
 (gt:P.underlying g0.type=some (.int .i64)∧P.underlying g1.type=some .string∧P.underlying g2.type=some .bool∧P.underlying g3.type=some (.slice er)∧P.underlying g4.type=some (.int .i64)∧P.underlying g5.type=some .bool∧P.underlying g6.type=some (.slice ex)∧P.underlying g7.type=some (.int .i64))
 (her:P.underlying er=some (.struct #[r0,r1])) (hCr:P.cellsOf er=2) (ro:r0.offset=0∧r1.offset=1) (rc:P.cellsOf r0.type=1∧P.cellsOf r1.type=1) (rt:P.underlying r0.type=some (.int .i64)∧P.underlying r1.type=some (.int .i64))
 (hex:P.underlying ex=some (.struct #[f0,f1,f2,f3])) (hCx:P.cellsOf ex=4) (fo:f0.offset=0∧f1.offset=1∧f2.offset=2∧f3.offset=3) (fc:P.cellsOf f0.type=1∧P.cellsOf f1.type=1∧P.cellsOf f2.type=1∧P.cellsOf f3.type=1)
 (ft:P.underlying f0.type=some (.int .i64)∧P.underlying f1.type=some (.int .i64)∧P.underlying f2.type=some .string∧P.underlying f3.type=some (.slice ex))
 (h:DataW.trod enc P w base spare held fuel ti [.slice a len cap]=some x):∃ l,ItemsIn w a len cap l:=by
 have inP:∀ (n:Nat) (cs:List Value) (y:DataW H × List MemPlace),cs.length=4→DataW.trod enc P w base spare held n ex cs=some y→∃ z,QPq noG w z cs∧BdP z:=by
  intro n cs y hl hd
  obtain⟨k,m,s,v,d,rfl,⟨A,c,rfl,hd1⟩,hs,hm⟩:=expr_in (S:=fun v (d:Nat)=>∃ A c,v = .slice A (dlen d) c∧d≠1) hex fo.1 fo.2.1 fo.2.2.1 fo.2.2.2 fc.1 fc.2.1 fc.2.2.1 fc.2.2.2 ft.1 ft.2.1 ft.2.2.1 ft.2.2.2 (fun n a len cap y _=>by
   cases len with
   | zero=>exact⟨0,a,cap,rfl,by decide⟩
   | succ m=>exact⟨m+2,a,cap,rfl,by omega⟩) n cs y hl hd
  exact⟨⟨k,m,s,d⟩,⟨A,c,rfl,fun e=>absurd e hd1⟩,hs,hm⟩
 have inX:∀ (n:Nat) (cs:List Value) (y:DataW H × List MemPlace),cs.length=4→DataW.trod enc P w base spare held n ex cs=some y→∃ z,QXq noG w z cs∧BdX z:=by
  intro n cs y hl hd
  obtain⟨k,m,s,v,l,rfl,⟨h1,h2,h3⟩,hs,hm⟩:=expr_in (S:=fun v (l:List Pq)=>Sl 4 (QPq noG) w v l∧(∀ z ∈ l,BdP z)∧l.length≤maxLen) hex fo.1 fo.2.1 fo.2.2.1 fo.2.2.2 fc.1 fc.2.1 fc.2.2.1 fc.2.2.2 ft.1 ft.2.1 ft.2.2.1 ft.2.2.2
   (fun n a len cap y hy=>by
    obtain⟨l,-,h1,h2,h3⟩:=slice_in (⟨0,0,nos,0⟩:Pq) (by decide) (QPq noG) BdP ft.2.2.2 hCx inP hy
    exact⟨l,h1,h2,h3⟩) n cs y hl hd
  exact⟨⟨k,m,s,l⟩,⟨v,rfl,h1,FarO.none v⟩,hs,h3,h2,hm⟩
 obtain⟨l,h1,h2,h3,h4⟩:=slice_in (⟨0,nos,false,[],0,false,[],0⟩:Iq) (by decide) (QIq noG) BdI hti hCi (fun n cs y hl hd=>by
  obtain⟨ys,n',-,-,-,hyl,hf⟩:=DataW.trod_struct hei hd
  match cs,hl with
  | [v0,v1,v2,v3,v4,v5,v6,v7],_ =>
   have k0:=hf 0 g0 rfl
   have k1:=hf 1 g1 rfl
   have k2:=hf 2 g2 rfl
   have k3:=hf 3 g3 rfl
   have k4:=hf 4 g4 rfl
   have k5:=hf 5 g5 rfl
   have k6:=hf 6 g6 rfl
   have k7:=hf 7 g7 rfl
   rw[go.1,gc.1] at k0
   rw[go.2.1,gc.2.1] at k1
   rw[go.2.2.1,gc.2.2.1] at k2
   rw[go.2.2.2.1,gc.2.2.2.1] at k3
   rw[go.2.2.2.2.1,gc.2.2.2.2.1] at k4
   rw[go.2.2.2.2.2.1,gc.2.2.2.2.2.1] at k5
   rw[go.2.2.2.2.2.2.1,gc.2.2.2.2.2.2.1] at k6
   rw[go.2.2.2.2.2.2.2,gc.2.2.2.2.2.2.2] at k7
   simp only[List.drop_zero,List.drop_succ_cons,List.take_succ_cons,List.take_zero] at k0 k1 k2 k3 k4 k5 k6 k7
   have hys:ys.length=8:=hyl
   match ys,hys with
   | [y0,y1,y2,y3,y4,y5,y6,y7],_ =>
    obtain⟨n0,e0,-,-⟩:=DataW.trod_int gt.1 (show _=some y0 from k0)
    obtain⟨s1,e1,-,hs⟩:=DataW.trod_string gt.2.1 (show _=some y1 from k1)
    obtain⟨b2,e2,-⟩:=DataW.trod_bool gt.2.2.1 (show _=some y2 from k2)
    obtain⟨a3,l3,c3,e3⟩:=Go.Joins.slice_form gt.2.2.2.1 (show _=some y3 from k3)
    obtain⟨n4,e4,-,q4⟩:=DataW.trod_int gt.2.2.2.2.1 (show _=some y4 from k4)
    obtain⟨b5,e5,-⟩:=DataW.trod_bool gt.2.2.2.2.2.1 (show _=some y5 from k5)
    obtain⟨a6,l6,c6,e6⟩:=Go.Joins.slice_form gt.2.2.2.2.2.2.1 (show _=some y6 from k6)
    obtain⟨n7,e7,-,-⟩:=DataW.trod_int gt.2.2.2.2.2.2.2 (show _=some y7 from k7)
    injection e0 with e0; injection e1 with e1; injection e2 with e2; injection e3 with e3; injection e4 with e4; injection e5 with e5; injection e6 with e6; injection e7 with e7
    subst e0 e1 e2 e3 e4 e5 e6 e7
    obtain⟨d,-,d1,d2,d3⟩:=slice_in ((0,0):Int × Int) (by decide) QR BdR gt.2.2.2.1 hCr (fun n cs y hl hd=>range_in her ro.1 ro.2 rc.1 rc.2 rt.1 rt.2 n cs y hl hd) (show _=some y3 from k3)
    obtain⟨vs,-,u1,u2,u3⟩:=slice_in (⟨0,0,nos,[]⟩:Xq) (by decide) (QXq noG) BdX gt.2.2.2.2.2.2.1 hCx inX (show _=some y6 from k6)
    exact⟨⟨n0,s1,b2,d,n4,b5,vs,n7⟩,⟨_,_,rfl,d1,FarO.none _,u1,FarO.none _⟩,hs,d3,u3,u2,d2,wf_fits q4⟩) h
 exact⟨l,h1,h2,h3,h4⟩
end
end Go.Proofs.YtjmmcnldfkjebaaGreatDoor.Sh
namespace Go.Proofs.YtjmmcnldfkjebaaGreatDoor.Law07
open Go.RowKit
set_option linter.unusedVariables false
set_option linter.unusedSimpArgs false
open Dig Lx Tk Ps Ti Sh
theorem info_pexpr:(Tryz.prog.info? 93).map (fun i=>(i.zero,i.size,i.bytes))=some (some (.agg #[.int .i64 0,.int .i64 0,.string ⟨#[]⟩,.slice none 0 0]),4,56):=by kernel_rfl
def nP (p:Pq):Pq:=⟨p.k,p.n,p.s,if p.d=0 then 0 else 1⟩
def nX (x:Xq):Xq:=⟨x.k,x.n,x.s,x.l.map nP⟩
def nI (x:Iq):Iq:=⟨x.kind,x.name,x.bool,x.dom,x.size,x.out,x.vals.map nX,x.ask⟩
theorem elPq {G:Nat→Prop} {w:World} {A:Option Addr} {n c:Nat} {xs:List Pq} (h:Sl 4 (QPq G) w (.slice A n c) xs) {i:Nat} (hi:i<xs.length) :
 ∃ b o A' c',A=some ⟨b,o,none⟩∧w.cell? ⟨b,o+i*4,none⟩=some (.int .i64 xs[i].k)∧w.cell? ⟨b,o+i*4+1,none⟩=some (.int .i64 xs[i].n)∧w.cell? ⟨b,o+i*4+2,none⟩=some (.string xs[i].s)∧w.cell? ⟨b,o+i*4+3,none⟩=some (.slice A' (dlen xs[i].d) c'):=by
 obtain⟨b,o,u,h1,⟨A',c',h2,-⟩,h3,h4⟩:=h.el hi
 subst h2
 exact⟨b,o,A',c',h1,h4 0 _ rfl,h4 1 _ rfl,h4 2 _ rfl,h4 3 _ rfl⟩
theorem elXq {G:Nat→Prop} {w:World} {A:Option Addr} {n c:Nat} {xs:List Xq} (h:Sl 4 (QXq G) w (.slice A n c) xs) {i:Nat} (hi:i<xs.length) :
 ∃ b o A' c',A=some ⟨b,o,none⟩∧Sl 4 (QPq G) w (.slice A' xs[i].l.length c') xs[i].l∧w.cell? ⟨b,o+i*4,none⟩=some (.int .i64 xs[i].k)∧w.cell? ⟨b,o+i*4+1,none⟩=some (.int .i64 xs[i].n)∧w.cell? ⟨b,o+i*4+2,none⟩=some (.string xs[i].s)∧w.cell? ⟨b,o+i*4+3,none⟩=some (.slice A' xs[i].l.length c'):=by
 obtain⟨b,o,u,h1,⟨v,h2,h5,-⟩,h3,h4⟩:=h.el hi
 subst h2
 obtain⟨A',c',rfl⟩:=h5.form
 exact⟨b,o,A',c',h1,h5,h4 0 _ rfl,h4 1 _ rfl,h4 2 _ rfl,h4 3 _ rfl⟩
def RetX (xs:List Xq) (w:World) (x:Ending) (w':World):Prop:=∃ A c,x = .returned (.slice A xs.length c)∧Sl 4 (QXq (fun b=>b<w.heap.size)) w' (.slice A xs.length c) (xs.map nX)∧FarO (fun b=>b<w.heap.size) (.slice A xs.length c)∧Since w w'
theorem exprs_any (v:Value) (xs:List Xq) (w:World) (h:Sl 4 (QXq noG) w v xs) (hn:xs.length≤10000) (hm:∀ x ∈ xs,x.l.length≤10000) :
 Calls Tryz.prog 24 #[v] w (RetX xs w):=by
 have H:=lH h
 obtain⟨A0,c0,rfl⟩:=h.form
 clear h
 obtain⟨i0,hi,hz0,hz1,hz2⟩:=info_parts info_pexpr
 obtain⟨n,hnn⟩:∃ n,n=xs.length:=⟨_,rfl⟩
 rw[← hnn] at H hn
 rw[← hnn]
 have HN:=lH hnn
 have HM:=lH hm
 clear hnn hm
 go_enter Tryz.func24,Tryz.ntmps24
 go_wp2
 go_loopw [3,12] (fun out i wr=>∃ (k:Nat) (A:Option Addr) (c:Nat) (cs:List Value),k≤n∧i = .int .i64 (k:Int)∧out = .slice A k c∧Hid (wr.ownsRow w.heap.size 93 4 (.slice A k c) k cs)∧Hid (Rws 4 (QXq (own (fun b=>b<w.heap.size) (.slice A k c)) wr) ((xs.take k).map nX) cs)∧Since w wr) (fun _ i _=>n - (intOf i).toNat)
 case atStart=>exact⟨0,none,0,[],Nat.zero_le _,rfl,rfl,World.ownsRow_nil _ _ _ _,.nil,Since.refl _⟩
 case round =>
  obtain⟨k,A,c,cs,hk,rfl,rfl,HO,HR,hw⟩:=hrel
  by_cases hlt:k<n
  · have hkx:k<xs.length:=by have:=HN.out; omega
    obtain⟨b,o,A1,c1,rfl,hs,h1,h2,h3,h4⟩:=elXq (H.out.since (stXq _) hw) hkx
    have hst:=takeR hkx
    have hml:=HM.out xs[k] (List.getElem_mem hkx)
    obtain⟨x,hx⟩:∃ x,x=xs[k]:=⟨_,rfl⟩
    rw[← hx] at hs h1 h2 h3 h4 hst hml
    obtain⟨kx,nx,sx,lx⟩:=x
    simp only at hs h1 h2 h3 h4 hml
    obtain⟨m,hmm⟩:∃ m,m=lx.length:=⟨_,rfl⟩
    rw[← hmm] at hs h4 hml
    have HT:=lH hst
    have HS:=lH hs
    have HMM:=lH hmm
    clear hst hx hs hmm hkx
    obtain⟨W,hW⟩:∃ W,W=wr:=⟨_,rfl⟩
    subst hW
    go_wp2
    go_loopw [6,19] (fun inn j w2=>∃ (q:Nat) (B:Option Addr) (d:Nat) (ds:List Value),q≤m∧j = .int .i64 (q:Int)∧inn = .slice B q d∧Hid (w2.ownsRow (W.heap.size+1) 93 4 (.slice B q d) q ds)∧Hid (Rws 4 (QPq (own (fun b=>b<W.heap.size+1) (.slice B q d)) w2) ((lx.take q).map nP) ds)∧Since W w2∧W.heap.size+1≤w2.heap.size∧Hid (Box w2 W.heap.size [.int .i64 kx,.int .i64 nx,.string sx,.slice A1 m c1])) (fun _ j _=>m - (intOf j).toNat)
    case atStart=>exact⟨0,none,0,[],Nat.zero_le _,rfl,rfl,World.ownsRow_nil _ _ _ _,.nil,(Since.refl _).alloc _,by simp,Box.new _ [.int .i64 kx,.int .i64 nx,.string sx,.slice A1 m c1] _⟩
    case round =>
     obtain⟨q,B,d,ds,hq,rfl,rfl,HB,HD,hw2,hsz,HX⟩:=hrel
     by_cases hlt2:q<m
     · have hqx:q<lx.length:=by have:=HMM.out; omega
       obtain⟨b2,o2,A3,c3,rfl,g1,g2,g3,g4⟩:=elPq (HS.out.since (stPq _) hw2) hqx
       have hst2:=takeR hqx
       obtain⟨y,hy⟩:∃ y,y=lx[q]:=⟨_,rfl⟩
       rw[← hy] at g1 g2 g3 g4 hst2
       obtain⟨ky,ny,sy,dy⟩:=y
       simp only at g1 g2 g3 g4
       have HT2:=lH hst2
       clear hst2 hy hqx
       rcases Nat.eq_zero_or_pos dy with rfl | hpos
       · simp only[dlen] at g4
         go_wp2_with (at_builtin; refine wpList_append_own_at _ rfl _ _ 40 rfl (W.heap.size+1) 93 i0 (.agg #[.int .i64 0,.int .i64 0,.string ⟨#[]⟩,.slice none 0 0]) 4 56 Tryz.underlying40 hi hz0 hz1 hz2 rfl (by decide) _ _ _ rfl (owns_since HB.out ((((Since.refl wr).alloc _).alloc _).alloc _)) ⟨wr.heap.size+2,0,none⟩ 1 1 [.int .i64 ky,.int .i64 ny,.string sy,.slice none 0 0] rfl rfl ?c1 ?c2 ?c3 ?c4 ?c5 ?_)
         case c1 =>
          intro j u hj
          exact cell_new _ _ _ (by simp) (by simpa using hj)
         case c2=>intro u hu; simp at hu; rcases hu with rfl | rfl | rfl | rfl <;> rfl
         case c3=>unfold maxLen; omega
         case c4=>omega
         case c5=>simp; omega
         intro v' w3 hown' hgrow _ hat
         have hb:Below (W.heap.size+1) wr w3:=Below.grown ((((Below.refl (W.heap.size+1) wr).alloc hsz _).alloc (by simp; omega) _).alloc (by simp; omega) _) hgrow (by simp; omega) (fun g hg=>(HB.out.lt g hg).1)
         have hs3:Since W w3:=Below.trans hw2 (Below.mono hb (by omega))
         have hsz3:=hb.size
         have ho1:w3.ownsRow (W.heap.size+1) 93 4 v' (q+1) (ds ++ [.int .i64 ky,.int .i64 ny,.string sy,.slice none 0 0]):=hown'
         have hr1:Rws 4 (QPq (own (fun b=>b<W.heap.size+1) v') w3) ((lx.take (q+1)).map nP) (ds ++ [.int .i64 ky,.int .i64 ny,.string sy,.slice none 0 0]):=by
          rw[HT2.out,List.map_append]
          exact Rws.mono (fun x u h=>QPq.grow hgrow own.has (own.app (hat.imp id fun e=>e.trans (by simp))) h) ((HD.out.since (stPq _) ((((Since.refl wr).alloc _).alloc _).alloc _)).snoc ⟨none,0,rfl,fun e=>by simp[nP] at e⟩ rfl)
         clear hown' hgrow hat
         obtain⟨B',d',rfl⟩:=owns_slice ho1
         have HB1:=lH ho1
         have HD1:=lH hr1
         clear ho1 hr1
         go_wp2
         go_roundw
         case rel=>exact⟨q+1,B',d',_,by omega,by go_num,rfl,HB1.out,HD1.out,hs3,by omega,HX.out.below hb (by omega)⟩
         case measure=>simp[intOf]; omega
       · obtain⟨dz,hdz⟩:∃ dz,dz=dlen dy:=⟨_,rfl⟩
         rw[← hdz] at g4
         have hpz:0<dz:=by
          rw[hdz]
          match dy,hpos with
          | 1,_=>decide
          | k+2,_=>exact Nat.succ_pos k
         have hz:decide ((0:Int)<(dz:Int))=true:=by rw[decide_eq_true_iff]; omega
         clear hdz
         go_wp2_with (at_builtin; refine wpList_append_own_at _ rfl _ _ 40 rfl (W.heap.size+1) 93 i0 (.agg #[.int .i64 0,.int .i64 0,.string ⟨#[]⟩,.slice none 0 0]) 4 56 Tryz.underlying40 hi hz0 hz1 hz2 rfl (by decide) _ _ _ rfl (owns_since HB.out (((((Since.refl wr).alloc _).alloc _).alloc _).alloc _)) ⟨wr.heap.size+3,0,none⟩ 1 1 [.int .i64 ky,.int .i64 ny,.string sy,.slice (some ⟨wr.heap.size+1+1,0,none⟩) 1 1] rfl rfl ?ty1 ?ty2 ?ty3 ?ty4 ?ty5 ?_)
         case ty1 =>
          intro j u hj
          exact cell_new _ _ _ (by simp) (by simpa using hj)
         case ty2=>intro u hu; simp at hu; rcases hu with rfl | rfl | rfl | rfl <;> rfl
         case ty3=>unfold maxLen; omega
         case ty4=>omega
         case ty5=>simp; omega
         intro v' w3 hown' hgrow _ hat
         have hb:Below (W.heap.size+1) wr w3:=Below.grown (((((Below.refl (W.heap.size+1) wr).alloc hsz _).alloc (by simp; omega) _).alloc (by simp; omega) _).alloc (by simp; omega) _) hgrow (by simp; omega) (fun g hg=>(HB.out.lt g hg).1)
         have hs3:Since W w3:=Below.trans hw2 (Below.mono hb (by omega))
         have hsz3:=hb.size
         have ho1:w3.ownsRow (W.heap.size+1) 93 4 v' (q+1) (ds ++ [.int .i64 ky,.int .i64 ny,.string sy,.slice (some ⟨wr.heap.size+1+1,0,none⟩) 1 1]):=hown'
         have hbx:=(Box.new ((wr.alloc (.cells #[.int .i64 ky,.int .i64 ny,.string sy,.slice A3 dz c3] 45)).alloc (.cells #[.int .i64 ky,.int .i64 ny,.string sy,.slice (some ⟨wr.heap.size+1+1,0,none⟩) 1 1] 93)) [.int .i64 0,.int .i64 0,.string ⟨#[]⟩,.slice none 0 0] 93).since ((Since.refl _).alloc (.cells #[.int .i64 ky,.int .i64 ny,.string sy,.slice (some ⟨wr.heap.size+1+1,0,none⟩) 1 1] 93))
         have hr1:Rws 4 (QPq (own (fun b=>b<W.heap.size+1) v') w3) ((lx.take (q+1)).map nP) (ds ++ [.int .i64 ky,.int .i64 ny,.string sy,.slice (some ⟨wr.heap.size+1+1,0,none⟩) 1 1]):=by
          rw[HT2.out,List.map_append]
          refine Rws.mono (fun x u h=>QPq.grow hgrow own.has (own.app (hat.imp id fun e=>e.trans (by simp))) h) ((HD.out.since (stPq _) (((((Since.refl wr).alloc _).alloc _).alloc _).alloc _)).snoc (x:=nP ⟨ky,ny,sy,dy⟩) ⟨some ⟨wr.heap.size+1+1,0,none⟩,1,by simp only[nP,if_neg (Nat.ne_of_gt hpos)]; rfl,fun e=>⟨slZ ?_,?_⟩⟩ rfl)
          · simpa [nos] using hbx
          · rintro b o m c e hn (hb | hb)
            · injection e with e; injection e with e; injection e with e
              omega
            · have:=HB.out.lt b hb
              injection e with e; injection e with e; injection e with e
              omega
         clear hown' hgrow hat hbx
         obtain⟨B',d',rfl⟩:=owns_slice ho1
         have HB1:=lH ho1
         have HD1:=lH hr1
         clear ho1 hr1
         go_wp2
         go_roundw
         case rel=>exact⟨q+1,B',d',_,by omega,by go_num,rfl,HB1.out,HD1.out,hs3,by omega,HX.out.below hb (by omega)⟩
         case measure=>simp[intOf]; omega
     · obtain rfl:q=m:=by omega
       have e:lx.take q=lx:=List.take_of_length_le (by have:=HMM.out; omega)
       rw[e] at HD
       clear e
       obtain⟨x1,x2,x3,x4⟩:=HX.out.four
       have HX':=HX
       clear HX
       go_wp2_with (at_builtin; refine wpList_append_own_at _ rfl _ _ 40 rfl w.heap.size 93 i0 (.agg #[.int .i64 0,.int .i64 0,.string ⟨#[]⟩,.slice none 0 0]) 4 56 Tryz.underlying40 hi hz0 hz1 hz2 rfl (by decide) _ _ _ rfl (owns_since HO.out (hw2.alloc _)) ⟨wr.heap.size,0,none⟩ 1 1 [.int .i64 kx,.int .i64 nx,.string sx,.slice B q d] rfl rfl ?c1 ?c2 ?c3 ?c4 ?c5 ?_)
       case c1 =>
        intro j u hj
        exact cell_new _ _ _ rfl (by simpa using hj)
       case c2=>intro u hu; simp at hu; rcases hu with rfl | rfl | rfl | rfl <;> rfl
       case c3=>unfold maxLen; omega
       case c4=>omega
       case c5=>have:=hw.size; simp; omega
       intro v' w3 hown' hgrow _ hat
       have hxn:QXq (own (fun b=>b<w.heap.size) (.slice A k c)) wr (nX ⟨kx,nx,sx,lx⟩) [.int .i64 kx,.int .i64 nx,.string sx,.slice B q d]:=
        ⟨_,rfl,(Sl.own HB.out HD.out (by show _=(lx.map nP).length; rw[List.length_map]; exact HMM.out)).mono (fun x u=>QPq.less (fun b hb=>by have:=hw.size; rcases hb with hb | hb; exact .inl (.inl (by omega)); have:=(HO.out.lt b hb).2; exact .inl (.inl (by omega)))),FarO.own HB.out (fun b hb=>by have:=hw.size; rcases hb with hb | hb; omega; have:=(HO.out.lt b hb).2; omega)⟩
       have hr1:Rws 4 (QXq (own (fun b=>b<w.heap.size) v') w3) ((xs.take (k+1)).map nX) (cs ++ [.int .i64 kx,.int .i64 nx,.string sx,.slice B q d]):=by
        rw[HT.out,List.map_append]
        exact Rws.mono (fun x u h=>QXq.grow hgrow own.has (own.app (hat.imp id fun e=>e.trans (by simp))) h) (((HR.out.since (stXq _) hw2).snoc hxn rfl).since (stXq _) ((Since.refl wr).alloc _))
       have hs3:Since w w3:=Below.grown ((hw.trans hw2).alloc _) hgrow (by have:=hw.size; simp; omega) (fun g hg=>(HO.out.lt g hg).1)
       have ho1:w3.ownsRow w.heap.size 93 4 v' (k+1) (cs ++ [.int .i64 kx,.int .i64 nx,.string sx,.slice B q d]):=hown'
       clear hown' hgrow hxn hat
       obtain⟨A',c',rfl⟩:=owns_slice ho1
       have HO1:=lH ho1
       have HR1:=lH hr1
       clear ho1 hr1
       go_wp2
       go_roundw
       case rel=>exact⟨k+1,A',c',_,by omega,by go_num,rfl,HO1.out,HR1.out,hs3⟩
       case measure=>simp[intOf]; omega
  · obtain rfl:k=n:=by omega
    have e:xs.take k=xs:=List.take_of_length_le (by have:=HN.out; omega)
    rw[e] at HR
    clear e
    go_wp2
    go_ret
    have hk2:=HN.out
    subst hk2
    exact⟨A,c,rfl,(Sl.own HO.out HR.out (by rw[List.length_map])).mono (fun x u=>QXq.less (fun b hb => .inl (.inl hb))),FarO.own HO.out (fun b hb=>hb),hw⟩
end Go.Proofs.YtjmmcnldfkjebaaGreatDoor.Law07
namespace Go.Proofs.YtjmmcnldfkjebaaGreatDoor.Law07
open Go.RowKit
set_option linter.unusedVariables false
set_option linter.unusedSimpArgs false
open Dig Lx Tk Ps Ti Sh
open Prs (bx8 bx8' bxput8 put8)
theorem keepXq {N M g:Nat} {w w':World} {v:Value} {vs:List Xq} (h:Sl 4 (QXq (fun b=>b<N)) w v vs) (k:w.grownBy w' (some g)) (hg:g<N) (hf:FarO (fun b=>b<N) v) (hM:M≤N):Sl 4 (QXq (fun b=>b<M)) w' v vs∧FarO (fun b=>b<M) v:=
 ⟨h.kept k (G:=fun b=>b<N) (fun b hb=>by injection hb with hb; subst hb; exact hg) (fun x u h=>QXq.grow k (G:=fun b=>b<N) (fun b hb=>by injection hb with hb; subst hb; exact hg) (fun b hb => .inl (Nat.lt_of_lt_of_le hb hM)) h) hf,hf.mono fun b hb=>Nat.lt_of_lt_of_le hb hM⟩
theorem theirs_any (ki:Int) (nm:ByteArray) (bo:Bool) (sz:Int) (ou:Bool) (ak:Int) (A1 A2:Option Addr) (p m c1 c2:Nat) (vs:List Xq) (w:World) (hv:Sl 4 (QXq noG) w (.slice A2 m c2) vs) (hn:vs.length≤10000) (hm:∀ x ∈ vs,x.l.length≤10000) :
 Calls Tryz.prog 14 #[.agg #[.int .i64 ki,.string nm,.bool bo,.slice A1 p c1,.int .i64 sz,.bool ou,.slice A2 m c2,.int .i64 ak]] w fun e w'=>∃ A3 c3,e = .returned (.agg #[.int .i64 ki,.string nm,.bool bo,.slice A1 p c1,.int .i64 sz,.bool ou,.slice A3 m c3,.int .i64 ak])∧Sl 4 (QXq (fun b=>b<w.heap.size)) w' (.slice A3 m c3) (vs.map nX)∧FarO (fun b=>b<w.heap.size) (.slice A3 m c3)∧Since w w':=by
 have hmv:=hv.at_.1
 obtain⟨W1,hW1⟩:∃ W1,W1=(w.alloc (.cells #[.int .i64 ki,.string nm,.bool bo,.slice A1 p c1,.int .i64 sz,.bool ou,.slice A2 m c2,.int .i64 ak] 28)).alloc (.cells #[.int .i64 0,.string ⟨#[]⟩,.bool false,.slice none 0 0,.int .i64 0,.bool false,.slice none 0 0,.int .i64 0] 42):=⟨_,rfl⟩
 have hs1:Since w W1:=by rw[hW1]; exact (sA _ _).trans (sA _ _)
 have hsz1:W1.heap.size=w.heap.size+1+1:=by rw[hW1]; simp
 have HX:=lH (fun W (k:Since W1 W)=>show Bx W w.heap.size #[.int .i64 ki,.string nm,.bool bo,.slice A1 p c1,.int .i64 sz,.bool ou,.slice A2 m c2,.int .i64 ak] 28 from Bx.since (by rw[hW1]; exact (Bx.fresh _ _ _).since (sA _ _)) k)
 have HZ:=lH (fun W (k:Since W1 W)=>show Bx W (w.heap.size+1) #[.int .i64 0,.string ⟨#[]⟩,.bool false,.slice none 0 0,.int .i64 0,.bool false,.slice none 0 0,.int .i64 0] 42 from Bx.since (by rw[hW1]; exact Bx.new (Since.refl _) (by simp)) k)
 have C:=lH (fun W (k:Since W1 W)=>exprs_any (.slice A2 m c2) vs W (hv.since (stXq _) (hs1.trans k)) hn hm)
 have HW:=lH hW1
 have HM:=lH hmv
 clear hv hn hm hW1 hmv
 go_enter Tryz.func14,Tryz.ntmps14
 go_wp2
 rw[← HW.out]
 have hr0:Since W1 W1.drew:=Since.drew (Since.refl W1)
 refine wp_region_noPanic ?_
 refine Reg.wp_region_G (S:=fun _=>True) (fun j => [18].contains j) (by kernel_rfl) trivial ?_
 refine' Reg.tk (i:=0) (oi:=⟨some 3,.fieldAddr 28 (.tmp 1) 0,0,"law.go:39",#[],none⟩) (v:=_) [1,17,18] [18] (Or.inl ⟨by rfl,Or.inl ?hy2⟩) ?r_2
 case hy2=>(intro w' kk ss; obtain⟨q0,q1,q2,q3,q4,q5,q6,q7⟩:=bx8 (HX.out _ (hr0.trans kk)); go_simp; first | done | with_reducible rfl)
 try simp only[Act.put,Reg.l1,Reg.l2,Reg.l3]
 refine' Reg.tk (i:=1) (oi:=⟨some 4,.load 3 (.tmp 3),3,"law.go:39",#[⟨0,.data⟩],none⟩) (v:=_) [17,18] [18] (Or.inl ⟨by rfl,Or.inl ?hy3⟩) ?r_3
 case hy3=>(intro w' kk ss; obtain⟨q0,q1,q2,q3,q4,q5,q6,q7⟩:=bx8 (HX.out _ (hr0.trans kk)); go_simp; first | done | with_reducible rfl)
 try simp only[Act.put,Reg.l1,Reg.l2,Reg.l3]
 refine' Reg.tk (i:=2) (oi:=⟨some 5,.fieldAddr 28 (.tmp 1) 1,0,"law.go:39",#[],none⟩) (v:=_) [3,17,18] [18] (Or.inl ⟨by rfl,Or.inl ?hy4⟩) ?r_4
 case hy4=>(intro w' kk ss; obtain⟨q0,q1,q2,q3,q4,q5,q6,q7⟩:=bx8 (HX.out _ (hr0.trans kk)); go_simp; first | done | with_reducible rfl)
 try simp only[Act.put,Reg.l1,Reg.l2,Reg.l3]
 refine' Reg.tk (i:=3) (oi:=⟨some 6,.load 9 (.tmp 5),9,"law.go:39",#[⟨2,.data⟩],none⟩) (v:=_) [17,18] [18] (Or.inl ⟨by rfl,Or.inl ?hy5⟩) ?r_5
 case hy5=>(intro w' kk ss; obtain⟨q0,q1,q2,q3,q4,q5,q6,q7⟩:=bx8 (HX.out _ (hr0.trans kk)); go_simp; first | done | with_reducible rfl)
 try simp only[Act.put,Reg.l1,Reg.l2,Reg.l3]
 refine' Reg.tk (i:=4) (oi:=⟨some 7,.fieldAddr 28 (.tmp 1) 2,0,"law.go:39",#[],none⟩) (v:=_) [5,17,18] [18] (Or.inl ⟨by rfl,Or.inl ?hy6⟩) ?r_6
 case hy6=>(intro w' kk ss; obtain⟨q0,q1,q2,q3,q4,q5,q6,q7⟩:=bx8 (HX.out _ (hr0.trans kk)); go_simp; first | done | with_reducible rfl)
 try simp only[Act.put,Reg.l1,Reg.l2,Reg.l3]
 refine' Reg.tk (i:=5) (oi:=⟨some 8,.load 4 (.tmp 7),4,"law.go:39",#[⟨4,.data⟩],none⟩) (v:=_) [17,18] [18] (Or.inl ⟨by rfl,Or.inl ?hy7⟩) ?r_7
 case hy7=>(intro w' kk ss; obtain⟨q0,q1,q2,q3,q4,q5,q6,q7⟩:=bx8 (HX.out _ (hr0.trans kk)); go_simp; first | done | with_reducible rfl)
 try simp only[Act.put,Reg.l1,Reg.l2,Reg.l3]
 refine' Reg.tk (i:=6) (oi:=⟨some 9,.fieldAddr 28 (.tmp 1) 3,0,"law.go:39",#[],none⟩) (v:=_) [7,17,18] [18] (Or.inl ⟨by rfl,Or.inl ?hy8⟩) ?r_8
 case hy8=>(intro w' kk ss; obtain⟨q0,q1,q2,q3,q4,q5,q6,q7⟩:=bx8 (HX.out _ (hr0.trans kk)); go_simp; first | done | with_reducible rfl)
 try simp only[Act.put,Reg.l1,Reg.l2,Reg.l3]
 refine' Reg.tk (i:=7) (oi:=⟨some 10,.load 25 (.tmp 9),25,"law.go:39",#[⟨6,.data⟩],none⟩) (v:=_) [17,18] [18] (Or.inl ⟨by rfl,Or.inl ?hy9⟩) ?r_9
 case hy9=>(intro w' kk ss; obtain⟨q0,q1,q2,q3,q4,q5,q6,q7⟩:=bx8 (HX.out _ (hr0.trans kk)); go_simp; first | done | with_reducible rfl)
 try simp only[Act.put,Reg.l1,Reg.l2,Reg.l3]
 refine' Reg.tk (i:=8) (oi:=⟨some 11,.fieldAddr 28 (.tmp 1) 4,0,"law.go:39",#[],none⟩) (v:=_) [9,17,18] [18] (Or.inl ⟨by rfl,Or.inl ?hy10⟩) ?r_10
 case hy10=>(intro w' kk ss; obtain⟨q0,q1,q2,q3,q4,q5,q6,q7⟩:=bx8 (HX.out _ (hr0.trans kk)); go_simp; first | done | with_reducible rfl)
 try simp only[Act.put,Reg.l1,Reg.l2,Reg.l3]
 refine' Reg.tk (i:=9) (oi:=⟨some 12,.load 2 (.tmp 11),2,"law.go:39",#[⟨8,.data⟩],none⟩) (v:=_) [17,18] [18] (Or.inl ⟨by rfl,Or.inl ?hy11⟩) ?r_11
 case hy11=>(intro w' kk ss; obtain⟨q0,q1,q2,q3,q4,q5,q6,q7⟩:=bx8 (HX.out _ (hr0.trans kk)); go_simp; first | done | with_reducible rfl)
 try simp only[Act.put,Reg.l1,Reg.l2,Reg.l3]
 refine' Reg.tk (i:=10) (oi:=⟨some 13,.fieldAddr 28 (.tmp 1) 5,0,"law.go:39",#[],none⟩) (v:=_) [11,17,18] [18] (Or.inl ⟨by rfl,Or.inl ?hy12⟩) ?r_12
 case hy12=>(intro w' kk ss; obtain⟨q0,q1,q2,q3,q4,q5,q6,q7⟩:=bx8 (HX.out _ (hr0.trans kk)); go_simp; first | done | with_reducible rfl)
 try simp only[Act.put,Reg.l1,Reg.l2,Reg.l3]
 refine' Reg.tk (i:=11) (oi:=⟨some 14,.load 4 (.tmp 13),4,"law.go:39",#[⟨10,.data⟩],none⟩) (v:=_) [17,18] [18] (Or.inl ⟨by rfl,Or.inl ?hy13⟩) ?r_13
 case hy13=>(intro w' kk ss; obtain⟨q0,q1,q2,q3,q4,q5,q6,q7⟩:=bx8 (HX.out _ (hr0.trans kk)); go_simp; first | done | with_reducible rfl)
 try simp only[Act.put,Reg.l1,Reg.l2,Reg.l3]
 refine' Reg.tk (i:=12) (oi:=⟨some 15,.fieldAddr 28 (.tmp 1) 6,0,"law.go:39",#[],none⟩) (v:=_) [13,14,17,18] [18] (Or.inl ⟨by rfl,Or.inl ?hy14⟩) ?r_14
 case hy14=>(intro w' kk ss; obtain⟨q0,q1,q2,q3,q4,q5,q6,q7⟩:=bx8 (HX.out _ (hr0.trans kk)); go_simp; first | done | with_reducible rfl)
 try simp only[Act.put,Reg.l1,Reg.l2,Reg.l3]
 refine' Reg.tk (i:=13) (oi:=⟨some 16,.load 26 (.tmp 15),26,"law.go:39",#[⟨12,.data⟩],none⟩) (v:=_) [14,17,18] [18] (Or.inl ⟨by rfl,Or.inl ?hy15⟩) ?r_15
 case hy15=>(intro w' kk ss; obtain⟨q0,q1,q2,q3,q4,q5,q6,q7⟩:=bx8 (HX.out _ (hr0.trans kk)); go_simp; first | done | with_reducible rfl)
 try simp only[Act.put,Reg.l1,Reg.l2,Reg.l3]
 refine' Reg.tk (i:=15) (oi:=⟨some 18,.fieldAddr 28 (.tmp 1) 7,0,"law.go:39",#[],none⟩) (v:=_) [16,17,18] [18] (Or.inl ⟨by rfl,Or.inl ?hy16⟩) ?r_16
 case hy16=>(intro w' kk ss; obtain⟨q0,q1,q2,q3,q4,q5,q6,q7⟩:=bx8 (HX.out _ (hr0.trans kk)); go_simp; first | done | with_reducible rfl)
 try simp only[Act.put,Reg.l1,Reg.l2,Reg.l3]
 refine' Reg.tk (i:=16) (oi:=⟨some 19,.load 3 (.tmp 18),3,"law.go:39",#[⟨15,.data⟩],none⟩) (v:=_) [17,18] [18] (Or.inl ⟨by rfl,Or.inl ?hy17⟩) ?r_17
 case hy17=>(intro w' kk ss; obtain⟨q0,q1,q2,q3,q4,q5,q6,q7⟩:=bx8 (HX.out _ (hr0.trans kk)); go_simp; first | done | with_reducible rfl)
 try simp only[Act.put,Reg.l1,Reg.l2,Reg.l3]
 refine Reg.wpG_ready (rs:=[14]) (by kernel_rfl) (by simp) (fun wq1001 k1001' sq1001 => ?_)
 have hr0:=hr0.trans k1001'
 refine Reg.AllG.first (o:=⟨some 17,.call { callee:=.value (.func 24),args:=#[.tmp 16],argTypes:=#[26] },40,"law.go:39",#[⟨13,.data⟩],none⟩) rfl (by rfl) (fun K hK=>?_) Reg.AllG.nil
 go_simp
 have hq1:=hr0.size
 (with_reducible refine (C.out wq1001 hr0).mono ?_)
 rintro e y1001 ⟨A3,c3,rfl,hCall,hCf,hx⟩
 rw[← HM.out] at hCall hCf ⊢
 refine hK.out _ _ trivial hx ?_
 clear hK K
 have hr0:=hr0.trans hx
 clear hx
 try simp only[Act.put,Reg.l1,Reg.l2,Reg.l3]
 refine' Reg.tk (i:=17) (oi:=⟨some 20,.build 42 #[(0,.tmp 4),(1,.tmp 6),(2,.tmp 8),(3,.tmp 10),(4,.tmp 12),(5,.tmp 14),(6,.tmp 17),(7,.tmp 19)],42,"law.go:39",#[⟨1,.data⟩,⟨3,.data⟩,⟨5,.data⟩,⟨7,.data⟩,⟨9,.data⟩,⟨11,.data⟩,⟨14,.data⟩,⟨16,.data⟩],none⟩) (v:=_) [18] [18] (Or.inl ⟨by rfl,Or.inl ?hy18⟩) ?r_18
 case hy18=>(intro w' kk ss; obtain⟨q0,q1,q2,q3,q4,q5,q6,q7⟩:=bx8 (HX.out _ (hr0.trans kk)); go_simp; first | done | with_reducible rfl)
 try simp only[Act.put,Reg.l1,Reg.l2,Reg.l3]
 refine Reg.wpG_ready (rs:=[18]) (by kernel_rfl) (by simp) (fun wq k1002' sq => ?_)
 have hr0:=hr0.trans k1002'
 have hCall:=hCall.since (stXq _) k1002'
 refine Reg.AllG.last (o := { dst := none, op := Op.store 42 (Operand.tmp 2) (Operand.tmp 20), type := 0, pos := "law.go:39", after := #[{ on := 17, ground := Ground.data }, { on := 14, ground := Ground.chain }, { on := 0, ground := Ground.phase }, { on := 1, ground := Ground.phase }, { on := 2, ground := Ground.phase }, { on := 3, ground := Ground.phase }, { on := 4, ground := Ground.phase }, { on := 5, ground := Ground.phase }, { on := 6, ground := Ground.phase }, { on := 7, ground := Ground.phase }, { on := 8, ground := Ground.phase }, { on := 9, ground := Ground.phase }, { on := 10, ground := Ground.phase }, { on := 11, ground := Ground.phase }, { on := 12, ground := Ground.phase }, { on := 13, ground := Ground.phase }, { on := 14, ground := Ground.phase }, { on := 15, ground := Ground.phase }, { on := 16, ground := Ground.phase }, { on := 17, ground := Ground.phase }], guard := none }) rfl (by rfl) (fun K hK => ?_) Reg.AllG.nil
 obtain⟨e0,e1,e2,e3,e4,e5,e6,e7⟩:=bx8 (HZ.out wq hr0)
 obtain⟨f0,f1,f2,f3,_,_,_,_⟩:=bx8' (HZ.out wq hr0)
 go_simp
 refine hK.out _ _ trivial (fun hHeld => ?_)
 clear hK K
 try simp only[Act.put,Reg.l1,Reg.l2,Reg.l3]
 refine wpAnyH_done (by kernel_rfl) ?_ _
 refine NoPanic.normal ?_
 have B:=bxput8 (HZ.out wq hr0) (.int .i64 ki) (.string nm) (.bool bo) (.slice A1 p c1) (.int .i64 sz) (.bool ou) (.slice A3 m c3) (.int .i64 ak)
 obtain⟨p0,p1,p2,p3,p4,p5,p6,p7⟩:=bx8 B
 unfold put8 put4 at p0 p1 p2 p3 p4 p5 p6 p7
 have kg:Prs.Only (w.heap.size+1) wq (put8 wq (w.heap.size+1) (.int .i64 ki) (.string nm) (.bool bo) (.slice A1 p c1) (.int .i64 sz) (.bool ou) (.slice A3 m c3) (.int .i64 ak)):=((((((((Prs.Only.refl _ _).set _).set _).set _).set _).set _).set _).set _).set _
 obtain⟨kv,kf⟩:=keepXq (M:=w.heap.size) hCall kg (by omega) hCf (by omega)
 have kw:Since w (put8 wq (w.heap.size+1) (.int .i64 ki) (.string nm) (.bool bo) (.slice A1 p c1) (.int .i64 sz) (.bool ou) (.slice A3 m c3) (.int .i64 ak)):=Prs.Only.since (hs1.trans hr0) kg (by omega)
 go_wp2
 refine bodyPost_ret ?_ rfl ⟨A3,c3,rfl,kv,kf,kw⟩
 simp[results,Tryz.results14,go_sem,p0,p1,p2,p3,p4,p5,p6,p7]
end Go.Proofs.YtjmmcnldfkjebaaGreatDoor.Law07
namespace Go.Proofs.YtjmmcnldfkjebaaGreatDoor.Law07
open Go.RowKit
set_option linter.unusedVariables false
set_option linter.unusedSimpArgs false
open Dig Lx Tk Ps Ti Sh
theorem info_pitem:(Tryz.prog.info? 42).map (fun i=>(i.zero,i.size,i.bytes))=some (some (.agg #[.int .i64 0,.string ⟨#[]⟩,.bool false,.slice none 0 0,.int .i64 0,.bool false,.slice none 0 0,.int .i64 0]),8,104):=by kernel_rfl
theorem elIq {G:Nat→Prop} {w:World} {A:Option Addr} {n c:Nat} {xs:List Iq} (h:Sl 8 (QIq G) w (.slice A n c) xs) {i:Nat} (hi:i<xs.length) :
 ∃ b o A1 c1 A2 c2,A=some ⟨b,o,none⟩∧Sl 2 QR w (.slice A1 xs[i].dom.length c1) xs[i].dom∧FarO G (.slice A1 xs[i].dom.length c1)∧Sl 4 (QXq G) w (.slice A2 xs[i].vals.length c2) xs[i].vals ∧
  w.cell? ⟨b,o+i*8,none⟩=some (.int .i64 xs[i].kind)∧w.cell? ⟨b,o+i*8+1,none⟩=some (.string xs[i].name)∧w.cell? ⟨b,o+i*8+2,none⟩=some (.bool xs[i].bool)∧w.cell? ⟨b,o+i*8+3,none⟩=some (.slice A1 xs[i].dom.length c1) ∧
  w.cell? ⟨b,o+i*8+4,none⟩=some (.int .i64 xs[i].size)∧w.cell? ⟨b,o+i*8+5,none⟩=some (.bool xs[i].out)∧w.cell? ⟨b,o+i*8+6,none⟩=some (.slice A2 xs[i].vals.length c2)∧w.cell? ⟨b,o+i*8+7,none⟩=some (.int .i64 xs[i].ask):=by
 obtain⟨b,o,u,h1,⟨d,v,h2,h5,hf,h6,-⟩,h3,h4⟩:=h.el hi
 subst h2
 obtain⟨A1,c1,rfl⟩:=h5.form
 obtain⟨A2,c2,rfl⟩:=h6.form
 exact⟨b,o,A1,c1,A2,c2,h1,h5,hf,h6,h4 0 _ rfl,h4 1 _ rfl,h4 2 _ rfl,h4 3 _ rfl,h4 4 _ rfl,h4 5 _ rfl,h4 6 _ rfl,h4 7 _ rfl⟩
theorem elIq2 {G:Nat→Prop} {w wr:World} {A:Option Addr} {n c:Nat} {xs:List Iq} (h:Sl 8 (QIq G) w (.slice A n c) xs) (k:Since w wr) {i:Nat} (hi:i<xs.length) :
 ∃ b o A1 c1 A2 c2,A=some ⟨b,o,none⟩∧Sl 2 QR w (.slice A1 xs[i].dom.length c1) xs[i].dom∧FarO G (.slice A1 xs[i].dom.length c1)∧Sl 4 (QXq G) w (.slice A2 xs[i].vals.length c2) xs[i].vals ∧
  wr.cell? ⟨b,o+i*8,none⟩=some (.int .i64 xs[i].kind)∧wr.cell? ⟨b,o+i*8+1,none⟩=some (.string xs[i].name)∧wr.cell? ⟨b,o+i*8+2,none⟩=some (.bool xs[i].bool)∧wr.cell? ⟨b,o+i*8+3,none⟩=some (.slice A1 xs[i].dom.length c1) ∧
  wr.cell? ⟨b,o+i*8+4,none⟩=some (.int .i64 xs[i].size)∧wr.cell? ⟨b,o+i*8+5,none⟩=some (.bool xs[i].out)∧wr.cell? ⟨b,o+i*8+6,none⟩=some (.slice A2 xs[i].vals.length c2)∧wr.cell? ⟨b,o+i*8+7,none⟩=some (.int .i64 xs[i].ask):=by
 obtain⟨b,o,A1,c1,A2,c2,h1,h2,h3,h4,g0,g1,g2,g3,g4,g5,g6,g7⟩:=elIq h hi
 have up:∀ {p:Addr} {u:Value},w.cell? p=some u→wr.cell? p=some u:=fun g=>(k.cell _ (World.block_lt_of_cell? _ _ g)).trans g
 exact⟨b,o,A1,c1,A2,c2,h1,h2,h3,h4,up g0,up g1,up g2,up g3,up g4,up g5,up g6,up g7⟩
def RetQ (G:Nat→Prop) (xs:List Iq) (w:World) (x:Ending) (w':World):Prop:=
 ∃ A c cs,x = .returned (.slice A xs.length c)∧w'.ownsRow w.heap.size 42 8 (.slice A xs.length c) xs.length cs∧Rws 8 (QIq (own G (.slice A xs.length c)) w') xs cs∧Since w w'
theorem all_any (G:Nat→Prop) (v:Value) (xs:List Iq) (w:World) (h:Sl 8 (QIq G) w v xs) (hG:∀ b,G b→b<w.heap.size) (hn:xs.length≤10000) (hm:∀ x ∈ xs,x.vals.length≤10000∧∀ y ∈ x.vals,y.l.length≤10000) :
 Calls Tryz.prog 7 #[v] w (RetQ G (xs.map nI) w):=by
 have H:=lH h
 obtain⟨A0,c0,rfl⟩:=h.form
 clear h
 obtain⟨i0,hi,hz0,hz1,hz2⟩:=info_parts info_pitem
 obtain⟨n,hnn⟩:∃ n,n=xs.length:=⟨_,rfl⟩
 rw[← hnn] at H hn ⊢
 have HN:=lH hnn
 have HM:=lH hm
 have HG:=lH hG
 clear hnn hm hG
 go_enter Tryz.func7,Tryz.ntmps7
 go_wp2
 go_loopw [3,8] (fun out i wr=>∃ (k:Nat) (A:Option Addr) (c:Nat) (cs:List Value),k≤n∧i = .int .i64 (k:Int)∧out = .slice A k c∧Hid (wr.ownsRow w.heap.size 42 8 (.slice A k c) k cs)∧Hid (Rws 8 (QIq (own G (.slice A k c)) wr) ((xs.take k).map nI) cs)∧Since w wr) (fun _ i _=>n - (intOf i).toNat)
 case atStart=>exact⟨0,none,0,[],Nat.zero_le _,rfl,rfl,World.ownsRow_nil _ _ _ _,.nil,Since.refl _⟩
 case round =>
  obtain⟨k,A,c,cs,hk,rfl,rfl,HO,HR,hw⟩:=hrel
  by_cases hlt:k<n
  · have hkx:k<xs.length:=by have:=HN.out; omega
    obtain⟨b,o,A1,c1,A2,c2,rfl,hd,hdf,hv,h0,h1,h2,h3,h4,h5,h6,h7⟩:=elIq2 H.out hw hkx
    have hst:=takeR hkx
    have hml:=HM.out xs[k] (List.getElem_mem hkx)
    obtain⟨x,hx⟩:∃ x,x=xs[k]:=⟨_,rfl⟩
    rw[← hx] at hd hdf hv h0 h1 h2 h3 h4 h5 h6 h7 hst hml
    obtain⟨ki,nm,bo,dm,sz,ou,vs,ak⟩:=x
    simp only at hd hdf hv h0 h1 h2 h3 h4 h5 h6 h7 hml
    obtain⟨p,hp⟩:∃ p,p=dm.length:=⟨_,rfl⟩
    obtain⟨m,hm⟩:∃ m,m=vs.length:=⟨_,rfl⟩
    rw[← hp] at hd hdf h3
    rw[← hm] at hv h6
    have TC:=lH (fun W (k:Since wr W)=>theirs_any ki nm bo sz ou ak A1 A2 p m c1 c2 vs W ((hv.mono fun x u=>QXq.none).since (stXq _) (hw.trans k)) hml.1 hml.2)
    have HT:=lH hst
    have HD:=lH hd
    have HDF:=lH hdf
    have HMM:=lH hm
    clear hst hx hkx hv hd hdf hml hp hm
    go_wp2_with (first
     | (go_at_call 14; (with_reducible refine (TC.out _ (sA _ _)).mono ?_); rintro e w1 ⟨A3,c3,rfl,hCall,hCf,hs1⟩; have hw1:=(sA wr (.cells #[.int .i64 ki,.string nm,.bool bo,.slice A1 p c1,.int .i64 sz,.bool ou,.slice A2 m c2,.int .i64 ak] 28)).trans hs1)
     | (at_builtin; refine wpList_append_own_at _ rfl _ _ 32 rfl w.heap.size 42 i0 (.agg #[.int .i64 0,.string ⟨#[]⟩,.bool false,.slice none 0 0,.int .i64 0,.bool false,.slice none 0 0,.int .i64 0]) 8 104 Tryz.underlying32 hi hz0 hz1 hz2 rfl (by decide) _ _ _ rfl (owns_since HO.out (hw1.trans (sA _ _))) ⟨w1.heap.size,0,none⟩ 1 1 [.int .i64 ki,.string nm,.bool bo,.slice A1 p c1,.int .i64 sz,.bool ou,.slice A3 m c3,.int .i64 ak] rfl rfl ?c1 ?c2 ?c3 ?c4 ?c5 ?_))
    case c1 =>
     intro j u hj
     exact cell_new _ _ _ rfl (by simpa using hj)
    case c2=>intro u hu; simp at hu; rcases hu with rfl | rfl | rfl | rfl | rfl | rfl | rfl | rfl <;> rfl
    case c3=>unfold maxLen; omega
    case c4=>omega
    case c5=>have:=hw.size; have:=hw1.size; simp; omega
    intro v' w2 hown' hgrow _ hat
    have hsz:=hw1.size
    have hlt1:∀ b,own G (.slice A k c) b→b<(wr.alloc (.cells #[.int .i64 ki,.string nm,.bool bo,.slice A1 p c1,.int .i64 sz,.bool ou,.slice A2 m c2,.int .i64 ak] 28)).heap.size:=fun b hb=>by
     have:=hw.size
     rcases hb with hb | hb
     · have:=HG.out b hb; simp; omega
     · have:=(HO.out.lt b hb).2; simp; omega
    have hxn:QIq (own G (.slice A k c)) w1 (nI ⟨ki,nm,bo,dm,sz,ou,vs,ak⟩) [.int .i64 ki,.string nm,.bool bo,.slice A1 p c1,.int .i64 sz,.bool ou,.slice A3 m c3,.int .i64 ak]:=
     ⟨_,_,rfl,HD.out.since stR (hw.trans hw1),HDF.out.or (FarO.new (G:=fun b=>(Value.slice A k c).ownBlock=some b) HD.out (by decide) (fun b hb=>(HO.out.lt b hb).1)),
      hCall.mono (fun x u=>QXq.less (fun b hb => .inl (hlt1 b hb))),hCf.mono hlt1⟩
    have hr1:Rws 8 (QIq (own G v') w2) ((xs.take (k+1)).map nI) (cs ++ [.int .i64 ki,.string nm,.bool bo,.slice A1 p c1,.int .i64 sz,.bool ou,.slice A3 m c3,.int .i64 ak]):=by
     rw[HT.out,List.map_append]
     exact Rws.mono (fun x u h=>QIq.grow hgrow own.has (own.app (hat.imp id fun e=>e.trans (by simp))) h) (((HR.out.since (stIq _) hw1).snoc hxn rfl).since (stIq _) (sA _ _))
    have hs3:Since w w2:=Below.grown ((hw.trans hw1).alloc _) hgrow (by have:=hw.size; simp; omega) (fun g hg=>(HO.out.lt g hg).1)
    have ho1:w2.ownsRow w.heap.size 42 8 v' (k+1) (cs ++ [.int .i64 ki,.string nm,.bool bo,.slice A1 p c1,.int .i64 sz,.bool ou,.slice A3 m c3,.int .i64 ak]):=hown'
    clear hown' hgrow hxn hat hCall hCf hlt1
    obtain⟨A',c',rfl⟩:=owns_slice ho1
    have HO1:=lH ho1
    have HR1:=lH hr1
    clear ho1 hr1
    go_wp2
    go_roundw
    case rel=>exact⟨k+1,A',c',_,by omega,by go_num,rfl,HO1.out,HR1.out,hs3⟩
    case measure=>simp[intOf]; omega
  · obtain rfl:k=n:=by omega
    have e:xs.take k=xs:=List.take_of_length_le (by have:=HN.out; omega)
    rw[e] at HR
    clear e
    go_wp2
    go_ret
    have hk2:=HN.out
    have e2:(xs.map nI).length=k:=by rw[List.length_map]; exact hk2.symm
    exact⟨A,c,cs,by rw[e2]; rfl,by rw[e2]; exact HO.out,by rw[e2]; exact HR.out,hw⟩
end Go.Proofs.YtjmmcnldfkjebaaGreatDoor.Law07
namespace Go.Proofs.YtjmmcnldfkjebaaGreatDoor.Law07
open Go.RowKit
set_option linter.unusedVariables false
set_option linter.unusedSimpArgs false
open Dig Lx Tk Ps Ti Sh
def SmX (x:Xq):Prop:=x.s.size≤100∧x.l.length≤100∧∀ p ∈ x.l,p.s.size≤100
def SmI (x:Iq):Prop:=x.name.size≤100∧x.vals.length≤100∧x.dom.length≤300∧∀ y ∈ x.vals,SmX y
def RetF (x:Iq) (w:World) (e:Ending) (w':World):Prop:=∃ r:Bool,e = .returned (.bool r)∧(r=true→SmI x)∧Since w w'
theorem RetF.no {x:Iq} {w w':World} (k:Since w w'):RetF x w (.returned (.bool false)) w':=⟨false,rfl,(fun h=>by cases h),k⟩
theorem gt_yes {a b:Nat} (h:b<a):decide ((b:Int)<(a:Int))=true:=by rw[decide_eq_true_iff]; omega
theorem gt_no {a b:Nat} (h:¬ b<a):decide ((b:Int)<(a:Int))=false:=by rw[decide_eq_false_iff_not]; omega
theorem few_any (ki:Int) (nm:ByteArray) (bo:Bool) (sz:Int) (ou:Bool) (ak:Int) (A1 A2:Option Addr) (p m c1 c2:Nat) (dm:List (Int × Int)) (vs:List Xq) (w:World) (hd:p=dm.length) (hv:Sl 4 (QXq noG) w (.slice A2 m c2) vs) (hm:vs.length≤maxLen) (hs0:nm.size≤maxLen) (hp0:p≤maxLen) (hx:∀ y ∈ vs,BdX y) :
 Calls Tryz.prog 5 #[.agg #[.int .i64 ki,.string nm,.bool bo,.slice A1 p c1,.int .i64 sz,.bool ou,.slice A2 m c2,.int .i64 ak]] w (RetF ⟨ki,nm,bo,dm,sz,ou,vs,ak⟩ w):=by
 have hmv:=hv.at_.1
 unfold maxLen at *
 have q0:∀ W:World,W=W:=fun _=>rfl
 by_cases y1:100<nm.size
 · have z1:decide ((100:Int)<(nm.size:Int))=true:=gt_yes y1
   clear hv hx hmv
   go_enter Tryz.func5,Tryz.ntmps5
   go_wp2
   go_ret
   exact RetF.no (sA _ _)
 have z1:decide ((100:Int)<(nm.size:Int))=false:=gt_no y1
 by_cases y2:100<m
 · have z2:decide ((100:Int)<(m:Int))=true:=gt_yes y2
   clear hv hx hmv
   go_enter Tryz.func5,Tryz.ntmps5
   go_wp2
   go_ret
   exact RetF.no (sA _ _)
 have z2:decide ((100:Int)<(m:Int))=false:=gt_no y2
 by_cases y3:300<p
 · have z3:decide ((300:Int)<(p:Int))=true:=gt_yes y3
   clear hv hx hmv
   go_enter Tryz.func5,Tryz.ntmps5
   go_wp2
   go_ret
   exact RetF.no (sA _ _)
 have z3:decide ((300:Int)<(p:Int))=false:=gt_no y3
 have HD:=lH hd
 have HMV:=lH hmv
 have HV:=lH (hv.since (stXq _) (sA w (.cells #[.int .i64 ki,.string nm,.bool bo,.slice A1 p c1,.int .i64 sz,.bool ou,.slice A2 m c2,.int .i64 ak] 28)))
 have HX:=lH hx
 have HF:=lH (show nm.size≤100∧vs.length≤100∧dm.length≤300 by omega)
 clear hd hmv hv hx hm q0
 go_enter Tryz.func5,Tryz.ntmps5
 go_wp2
 obtain⟨W0,hW0⟩:∃ W0,W0=w.alloc (.cells #[.int .i64 ki,.string nm,.bool bo,.slice A1 p c1,.int .i64 sz,.bool ou,.slice A2 m c2,.int .i64 ak] 28):=⟨_,rfl⟩
 rw[← hW0] at HV ⊢
 have hw0:Since w W0:=by rw[hW0]; exact sA _ _
 clear hW0
 go_loopw [26] (fun i wr=>∃ k:Nat,k≤m∧i = .int .i64 (k:Int)∧Hid (∀ y ∈ vs.take k,SmX y)∧Since W0 wr) (fun i _=>m - (intOf i).toNat)
 case atStart=>exact⟨0,Nat.zero_le _,rfl,(by intro y hy; simp at hy),Since.refl _⟩
 case round =>
  obtain⟨k,hk,rfl,HS,hw⟩:=hrel
  by_cases hlt:k<m
  · have hkx:k<vs.length:=by have:=HMV.out; omega
    obtain⟨b,o,A3,c3,rfl,hs,h1,h2,h3,h4⟩:=elXq (HV.out.since (stXq _) hw) hkx
    have hst:=takeR hkx
    have hbd:=HX.out vs[k] (List.getElem_mem hkx)
    obtain⟨x,hx⟩:∃ x,x=vs[k]:=⟨_,rfl⟩
    rw[← hx] at hs h1 h2 h3 h4 hst hbd
    obtain⟨kx,nx,sx,lx⟩:=x
    simp only at hs h1 h2 h3 h4
    obtain⟨q,hq⟩:∃ q,q=lx.length:=⟨_,rfl⟩
    rw[← hq] at hs h4
    have hb1:sx.size≤9223372036854775807:=by have:=hbd.1; unfold maxLen at this; omega
    have hb2:q≤9223372036854775807:=by have:=hbd.2.1; unfold maxLen at this; simp only at this; omega
    have HQ:=lH hq
    have HT:=lH hst
    have HL:=lH hs
    clear hst hx hbd hkx hs hq
    by_cases u1:100<sx.size
    · have v1:decide ((100:Int)<(sx.size:Int))=true:=gt_yes u1
      go_wp2
      go_ret
      exact RetF.no (hw0.trans (hw.trans (sA _ _)))
    have v1:decide ((100:Int)<(sx.size:Int))=false:=gt_no u1
    by_cases u2:100<q
    · have v2:decide ((100:Int)<(q:Int))=true:=gt_yes u2
      go_wp2
      go_ret
      exact RetF.no (hw0.trans (hw.trans (sA _ _)))
    have v2:decide ((100:Int)<(q:Int))=false:=gt_no u2
    have HU:=lH (show sx.size≤100∧q≤100 by omega)
    clear u1 u2 hb1
    obtain⟨W,hW⟩:∃ W,W=wr:=⟨_,rfl⟩
    subst hW
    go_wp2
    go_loopw [43] (fun i w2=>∃ j:Nat,j≤q∧i = .int .i64 (j:Int)∧Hid (∀ z ∈ lx.take j,z.s.size≤100)∧Since W w2) (fun i _=>q - (intOf i).toNat)
    case atStart=>exact⟨0,Nat.zero_le _,rfl,(by intro y hy; simp at hy),sA _ _⟩
    case round =>
     obtain⟨j,hj,rfl,HJ,hw2⟩:=hrel
     by_cases hlt2:j<q
     · have hjx:j<lx.length:=by have:=HQ.out; omega
       obtain⟨b2,o2,A4,c4,rfl,g1,g2,g3,g4⟩:=elPq (HL.out.since (stPq _) hw2) hjx
       have hst2:=takeR hjx
       obtain⟨y,hy⟩:∃ y,y=lx[j]:=⟨_,rfl⟩
       rw[← hy] at g1 g2 g3 g4 hst2
       obtain⟨ky,ny,sy,dy⟩:=y
       simp only at g1 g2 g3 g4
       have HT2:=lH hst2
       clear hst2 hy hjx
       by_cases u3:100<sy.size
       · have v3:decide ((100:Int)<(sy.size:Int))=true:=gt_yes u3
         go_wp2
         go_ret
         exact RetF.no (hw0.trans (hw.trans (hw2.trans (sA _ _))))
       have v3:decide ((100:Int)<(sy.size:Int))=false:=gt_no u3
       go_wp2
       go_roundw
       case rel =>
        refine⟨j+1,by omega,by go_num,?_,hw2.trans (sA _ _)⟩
        intro z hz
        rw[HT2.out] at hz
        rcases List.mem_append.1 hz with hz | hz
        · exact HJ.out z hz
        · simp only[List.mem_singleton] at hz; subst hz; show sy.size≤100; omega
       case measure=>simp[intOf]; omega
     · obtain rfl:j=q:=by omega
       have e:lx.take j=lx:=List.take_of_length_le (by have:=HQ.out; omega)
       rw[e] at HJ
       go_wp2
       go_roundw
       case rel =>
        refine⟨k+1,by omega,by go_num,?_,hw.trans hw2⟩
        intro y hy
        rw[HT.out] at hy
        rcases List.mem_append.1 hy with hy | hy
        · exact HS.out y hy
        · simp only[List.mem_singleton] at hy; subst hy
          exact⟨HU.out.1,by rw[← HQ.out]; exact HU.out.2,HJ.out⟩
       case measure=>simp[intOf]; omega
  · obtain rfl:k=m:=by omega
    have e:vs.take k=vs:=List.take_of_length_le (by have:=HMV.out; omega)
    rw[e] at HS
    go_wp2
    go_ret
    exact⟨true,rfl,fun _=>⟨HF.out.1,HF.out.2.1,HF.out.2.2,HS.out⟩,hw0.trans hw⟩
end Go.Proofs.YtjmmcnldfkjebaaGreatDoor.Law07
namespace Go.Proofs.YtjmmcnldfkjebaaGreatDoor.Law07
open Go.RowKit
set_option linter.unusedVariables false
set_option linter.unusedSimpArgs false
open Dig Lx Tk Ps Ti Sh
def BoX (x:Xq):Prop:=x.s.size≤10000∧x.l.length≤10000∧(∀ p ∈ x.l,p.s.size≤10000∧fits p.n∧p.d≤1)∧fits x.n
def BoI (x:Iq):Prop:=x.name.size≤10000∧x.dom.length≤10000∧x.vals.length≤10000∧(∀ y ∈ x.vals,BoX y)∧(∀ z ∈ x.dom,BdR z)∧fits x.size
theorem boI_of {x:Iq} (h:BdI x) (k:SmI x):BoI (nI x):=by
 obtain⟨-,-,-,h4,h5,h6⟩:=h
 obtain⟨k1,k2,k3,k4⟩:=k
 refine⟨show x.name.size≤10000 by omega,show x.dom.length≤10000 by omega,?_,?_,h5,h6⟩
 · show (x.vals.map nX).length≤10000
   rw[List.length_map]; omega
 · intro y hy
   obtain⟨z,hz,rfl⟩:=List.mem_map.1 hy
   obtain⟨a1,a2,a3⟩:=k4 z hz
   obtain⟨-,-,b3,b4⟩:=h4 z hz
   refine⟨show z.s.size≤10000 by omega,?_,?_,b4⟩
   · show (z.l.map nP).length≤10000
     rw[List.length_map]; omega
   · intro p hp
     obtain⟨q,hq,rfl⟩:=List.mem_map.1 hp
     exact⟨Nat.le_trans (a3 q hq) (by decide),(b3 q hq).2,by show (if q.d=0 then 0 else 1)≤1; split <;> omega⟩
def ItemS (x:Iq) (T:ByteArray) (e:Int):Prop:=(¬ Valid x∧T=nos∧e=2)∨∃ y:It,x=itq y∧WfS y∧T=itemB y∧e=0
theorem item_yes {x:Iq} {y:It} {T:ByteArray} {e:Int} (h:ItemS x T e) (hx:x=itq y) (hy:WfS y):T=itemB y∧e=0:=by
 rcases h with ⟨h,-⟩ | ⟨z,hz,-,rfl,rfl⟩
 · exact absurd ⟨y,hx,hy⟩ h
 · obtain rfl:=itq_inj _ _ (hx.symm.trans hz)
   exact⟨rfl,rfl⟩
theorem item_no {x:Iq} {T:ByteArray} {e:Int} (h:ItemS x T e) (hx:¬ Valid x):T=nos∧e=2:=by
 rcases h with ⟨-,h⟩ | ⟨y,hz,hy,-⟩
 · exact h
 · exact absurd ⟨y,hz,hy⟩ hx
def RetS (x:Iq) (w:World) (e:Ending) (w':World):Prop:=∃ (T:ByteArray) (er:Int),e = .returned (.tuple #[.string T,.int .i64 er])∧ItemS x T er∧Since w w'
def RetV (x:Iq) (w:World) (e:Ending) (w':World):Prop:=∃ r:Bool,e = .returned (.bool r)∧(r=true↔Valid x)∧Since w w'
def RetTx (l:List Iq) (w:World) (e:Ending) (w':World):Prop:=∃ (T:ByteArray) (er:Int),e = .returned (.tuple #[.string T,.int .i64 er])∧ShowsT l T er∧Since w w'
def ArgI (w:World) (x:Iq) (u:Array Value):Prop:=∃ A1 c1 A2 c2,u = #[.int .i64 x.kind,.string x.name,.bool x.bool,.slice A1 x.dom.length c1,.int .i64 x.size,.bool x.out,.slice A2 x.vals.length c2,.int .i64 x.ask]∧Sl 2 QR w (.slice A1 x.dom.length c1) x.dom∧Sl 4 (QXq noG) w (.slice A2 x.vals.length c2) x.vals
def ShowSays (Ok:World→Prop):Prop:=
 (∀ w w',Ok w→Since w w'→Ok w') ∧
 (∀ (x:Iq) (u:Array Value) (w:World),Ok w→ArgI w x u→BoI x→Calls Tryz.prog 9 #[.agg u] w (RetS x w)) ∧
 (∀ (x:Iq) (u:Array Value) (w:World),Ok w→ArgI w x u→BoI x→Calls Tryz.prog 10 #[.agg u] w (RetV x w)) ∧
 (∀ (l:List Iq) (v:Value) (w:World),Ok w→ItemsQ w v l→l.length≤10000→(∀ x ∈ l,BoI x)→Calls Tryz.prog 6 #[v] w (RetTx l w))
theorem readA:textD ⟨#[118,97,114,32,49,46,46,51,58,32,120,32,58,58,32,111,117,116,112,117,116,95,118,97,114,59]⟩=([⟨2,⟨#[120]⟩,false,[(1,3)],0,true,[],0⟩],0,0):=by kernel_rfl
theorem readC:textD ⟨#[115,111,108,118,101,32,115,97,116,105,115,102,121,59]⟩=([⟨6,nos,false,[],0,false,[],0⟩],0,0):=by kernel_rfl
theorem textIA:itemB ⟨2,⟨#[120]⟩,false,[(1,3)],0,true,[],0⟩=⟨#[118,97,114,32,49,46,46,51,58,32,120,32,58,58,32,111,117,116,112,117,116,95,118,97,114,59]⟩:=by kernel_rfl
theorem validA:WfS ⟨2,⟨#[120]⟩,false,[(1,3)],0,true,[],0⟩:=⟨wf_text readA _ (by simp),by rw[textIA]; decide,by decide⟩
theorem validC:WfS ⟨6,nos,false,[],0,false,[],0⟩:=⟨wf_text readC _ (by simp),by decide,by decide⟩
theorem nameB:¬ NameOk ⟨#[118,97,114]⟩:=fun h=>absurd h.2.2 (by decide)
theorem validB:¬ Valid ⟨6,⟨#[118,97,114]⟩,false,[],0,false,[],1⟩:=by
 rintro⟨y,hy,hw,-⟩
 obtain⟨ki,nm,bo,dm,sz,ou,vs,ak⟩:=y
 simp only[itq,Iq.mk.injEq] at hy
 obtain⟨rfl,rfl,rfl,rfl,rfl,rfl,-,rfl⟩:=hy
 rcases hw with ⟨h,-⟩ | ⟨h,-⟩ | ⟨⟨h,-⟩ | h,-⟩ | ⟨h,-⟩ | ⟨-,-,-,-,-,-,⟨h,-⟩ | ⟨-,h⟩⟩
 · exact absurd (show (6:Int)=1 from h) (by decide)
 · exact absurd (show (6:Int)=2 from h) (by decide)
 · exact absurd (show (6:Int)=3 from h) (by decide)
 · exact absurd (show (6:Int)=4 from h) (by decide)
 · exact absurd (show (6:Int)=5 from h) (by decide)
 · exact absurd (show (1:Int)=0 from h) (by decide)
 · exact nameB h
theorem itemA_any {Ok:World→Prop} (T:ShowSays Ok) (A1:Option Addr) (c1:Nat) (w:World) (ok:Ok w) (h:Sl 2 QR w (.slice A1 1 c1) [(1,3)]) :
 Calls Tryz.prog 9 #[.agg #[.int .i64 2,.string ⟨#[120]⟩,.bool false,.slice A1 1 c1,.int .i64 0,.bool true,.slice none 0 0,.int .i64 0]] w fun e w'=>e = .returned (.tuple #[.string ⟨#[118,97,114,32,49,46,46,51,58,32,120,32,58,58,32,111,117,116,112,117,116,95,118,97,114,59]⟩,.int .i64 0])∧Since w w':=by
 refine (T.2.1 ⟨2,⟨#[120]⟩,false,[(1,3)],0,true,[],0⟩ _ w ok ⟨A1,c1,none,0,rfl,h,Sl.nil _ _ _⟩ ⟨by decide,by decide,by decide,by simp,by simp[BdR,fits],by simp[fits]⟩).mono ?_
 rintro e w' ⟨S,er,rfl,hS,hs⟩
 obtain⟨rfl,rfl⟩:=item_yes (y:=⟨2,⟨#[120]⟩,false,[(1,3)],0,true,[],0⟩) hS rfl validA
 rw[textIA]
 exact⟨rfl,hs⟩
theorem itemB_any {Ok:World→Prop} (T:ShowSays Ok) (w:World) (ok:Ok w) :
 Calls Tryz.prog 9 #[.agg #[.int .i64 6,.string ⟨#[118,97,114]⟩,.bool false,.slice none 0 0,.int .i64 0,.bool false,.slice none 0 0,.int .i64 1]] w fun e w'=>e = .returned (.tuple #[.string nos,.int .i64 2])∧Since w w':=by
 refine (T.2.1 ⟨6,⟨#[118,97,114]⟩,false,[],0,false,[],1⟩ _ w ok ⟨none,0,none,0,rfl,Sl.nil _ _ _,Sl.nil _ _ _⟩ ⟨by decide,by decide,by decide,by simp,by simp,by simp[fits]⟩).mono ?_
 rintro e w' ⟨S,er,rfl,hS,hs⟩
 obtain⟨rfl,rfl⟩:=item_no hS validB
 exact⟨rfl,hs⟩
theorem rightC_any {Ok:World→Prop} (T:ShowSays Ok) (w:World) (ok:Ok w) :
 Calls Tryz.prog 10 #[.agg #[.int .i64 6,.string ⟨#[]⟩,.bool false,.slice none 0 0,.int .i64 0,.bool false,.slice none 0 0,.int .i64 0]] w fun e w'=>e = .returned (.bool true)∧Since w w':=by
 refine (T.2.2.1 ⟨6,nos,false,[],0,false,[],0⟩ _ w ok ⟨none,0,none,0,rfl,Sl.nil _ _ _,Sl.nil _ _ _⟩ ⟨by decide,by decide,by decide,by simp,by simp,by simp[fits]⟩).mono ?_
 rintro e w' ⟨r,rfl,hr,hs⟩
 obtain rfl:=hr.2 ⟨⟨6,nos,false,[],0,false,[],0⟩,rfl,validC⟩
 exact⟨rfl,hs⟩
theorem sl_one (w:World) (lo hi:Int) (t:TypeId):Sl 2 QR (w.alloc (.cells #[.int .i64 lo,.int .i64 hi] t)) (.slice (some ⟨w.heap.size,0,none⟩) 1 1) [(lo,hi)]:=by
 refine⟨some ⟨w.heap.size,0,none⟩,1,rfl,Nat.le_refl _,fun _=>⟨_,0,rfl,fun i x hx => ?_⟩⟩
 cases i with
 | succ i=>simp at hx
 | zero =>
  simp only[List.getElem?_cons_zero,Option.some.injEq] at hx
  subst hx
  refine⟨_,rfl,rfl,fun j y hy => ?_⟩
  have:=cell_new w #[.int .i64 lo,.int .i64 hi] t rfl (j:=j) (u:=y) (by simpa using hy)
  rw[add_at] at this
  simpa using this
theorem alive {Ok:World→Prop} (T:ShowSays Ok) (w:World) (ok:Ok w):Calls Tryz.prog 4 #[] w fun e w'=>e = .returned (.bool true)∧Since w w':=by
 have TA:=lH (itemA_any T)
 have TB:=lH (itemB_any T)
 have TC:=lH (rightC_any T)
 have OK:=lH T.1
 have OKw:=lH ok
 have S1:=lH (fun t:TypeId=>sl_one w 1 3 t)
 clear T ok
 go_enter Tryz.func4,Tryz.ntmps4
 go_wp2_with (first
  | (go_at_call 9; (with_reducible refine (TA.out _ _ _ (OK.out _ _ OKw.out (sA _ _)) (S1.out _)).mono ?_); rintro e w1 ⟨rfl,h1⟩; have q1:=(sA _ _).trans h1)
  | (go_at_call 9; (with_reducible refine (TB.out _ (OK.out _ _ OKw.out q1)).mono ?_); rintro e w2 ⟨rfl,h2⟩; have q2:=q1.trans h2)
  | (go_at_call 10; (with_reducible refine (TC.out _ (OK.out _ _ OKw.out q2)).mono ?_); rintro e w3 ⟨rfl,h3⟩; have q3:=q2.trans h3))
 go_ret
 exact⟨rfl,q3⟩
end Go.Proofs.YtjmmcnldfkjebaaGreatDoor.Law07
namespace Go.Proofs.YtjmmcnldfkjebaaGreatDoor.Law07
set_option linter.unusedVariables false
set_option linter.unusedSimpArgs false
open Dig Lx Ps Sh
end Go.Proofs.YtjmmcnldfkjebaaGreatDoor.Law07
