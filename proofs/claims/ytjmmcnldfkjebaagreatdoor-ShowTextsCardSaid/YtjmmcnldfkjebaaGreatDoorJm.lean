/- The document's own parser: a Var. -/
import Derived.BigRegion
import Derived.Test.YtjmmcnldfkjebaaGreatDoorQao
set_option maxHeartbeats 8000000
set_option maxRecDepth 20000
namespace Go.Proofs.YtjmmcnldfkjebaaGreatDoor.Doc6
open Go.RowKit
set_option linter.unusedVariables false
set_option linter.unusedSimpArgs false
open Dig Lx Tk Ps Ti
open Fq
open Prs (Only owns_only lenV Old)
theorem bx8 {W:World} {g:Nat} {z0 z1 z2 z3 z4 z5 z6 z7:Value} {t:TypeId} (h:Bx W g #[z0,z1,z2,z3,z4,z5,z6,z7] t) :
 W.cell? ⟨g,0,none⟩=some z0∧W.cell? ⟨g,1,none⟩=some z1∧W.cell? ⟨g,2,none⟩=some z2∧W.cell? ⟨g,3,none⟩=some z3∧W.cell? ⟨g,4,none⟩=some z4∧W.cell? ⟨g,5,none⟩=some z5∧W.cell? ⟨g,6,none⟩=some z6∧W.cell? ⟨g,7,none⟩=some z7:=⟨h.cell 0,h.cell 1,h.cell 2,h.cell 3,h.cell 4,h.cell 5,h.cell 6,h.cell 7⟩
theorem bx8' {W:World} {g:Nat} {z0 z1 z2 z3 z4 z5 z6 z7:Value} {t:TypeId} (h:Bx W g #[z0,z1,z2,z3,z4,z5,z6,z7] t) :
 W.frozen? ⟨g,0,none⟩=false∧W.frozen? ⟨g,1,none⟩=false∧W.frozen? ⟨g,2,none⟩=false∧W.frozen? ⟨g,3,none⟩=false∧W.frozen? ⟨g,4,none⟩=false∧W.frozen? ⟨g,5,none⟩=false∧W.frozen? ⟨g,6,none⟩=false∧W.frozen? ⟨g,7,none⟩=false:=⟨h.no 0,h.no 1,h.no 2,h.no 3,h.no 4,h.no 5,h.no 6,h.no 7⟩
theorem bx4 {W:World} {g:Nat} {z0 z1 z2 z3:Value} {t:TypeId} (h:Bx W g #[z0,z1,z2,z3] t):W.cell? ⟨g,0,none⟩=some z0∧W.cell? ⟨g,1,none⟩=some z1∧W.cell? ⟨g,2,none⟩=some z2∧W.cell? ⟨g,3,none⟩=some z3:=h.four
theorem bx4' {W:World} {g:Nat} {z0 z1 z2 z3:Value} {t:TypeId} (h:Bx W g #[z0,z1,z2,z3] t):W.frozen? ⟨g,0,none⟩=false∧W.frozen? ⟨g,1,none⟩=false∧W.frozen? ⟨g,2,none⟩=false∧W.frozen? ⟨g,3,none⟩=false:=h.four'
theorem bnd_alt {α β:Type} (cl:Bs) (p q:P α) (f:α→P β):bnd (alt cl p q) f=alt cl (bnd p f) (bnd q f):=by
 funext n us
 simp only[bnd,alt]
 split <;> rfl
theorem bnd_assoc {α β γ:Type} (p:P α) (g:α→P β) (f:β→P γ):bnd (bnd p g) f=bnd p fun a=>bnd (g a) f:=by
 funext n us
 simp only[bnd]
 cases p n us <;> rfl
theorem bnd_ret {α β:Type} (a:α) (f:α→P β):bnd (ret a) f=f a:=rfl
theorem bnd_if {α β:Type} (b:Bool) (p q:P α) (f:α→P β):bnd (if b=true then p else q) f=if b=true then bnd p f else bnd q f:=by cases b <;> rfl
abbrev VI (w:World):World→It→Value→Prop:=fun w' x v=>∃ D V,v = .agg #[.int .i64 x.kind,.string x.name,.bool x.bool,D,.int .i64 x.size,.bool x.out,V,.int .i64 x.ask]∧Sl 2 QR w' D x.dom∧FarO (Old w) D∧Sl 4 (QX (Old w)) w' V x.vals∧FarO (Old w) V
abbrev ZI:Value→Prop:=fun v=>∃ (ki:Int) (nm:ByteArray) (bo:Bool) (D:Option Addr) (d1 d2:Nat) (sz:Int) (ou:Bool) (V:Option Addr) (v1 v2:Nat) (ak:Int),v = .agg #[.int .i64 ki,.string nm,.bool bo,.slice D d1 d2,.int .i64 sz,.bool ou,.slice V v1 v2,.int .i64 ak]
theorem bx_new {w W:World} (h:Since w W) (cs:Array Value) (t:TypeId) {g:Nat} (e:W.heap.size=g):Bx (W.alloc (.cells cs t)) g cs t:=Bx.new (Since.refl _) e
abbrev put8 (W:World) (b:Nat) (u0 u1 u2 u3 u4 u5 u6 u7:Value):World:=(((put5 W b u0 u1 u2 u3 u4).setCell ⟨b,5,none⟩ u5).setCell ⟨b,6,none⟩ u6).setCell ⟨b,7,none⟩ u7
theorem since_put8 {w W:World} {b:Nat} (h:Since w W) (hb:w.heap.size≤b) (u0 u1 u2 u3 u4 u5 u6 u7:Value):Since w (put8 W b u0 u1 u2 u3 u4 u5 u6 u7):=(((since_put5 h hb u0 u1 u2 u3 u4).set hb _).set hb _).set hb _
theorem bxput8 {W:World} {b:Nat} {z0 z1 z2 z3 z4 z5 z6 z7:Value} {t:TypeId} (h:Bx W b #[z0,z1,z2,z3,z4,z5,z6,z7] t) (u0 u1 u2 u3 u4 u5 u6 u7:Value):Bx (put8 W b u0 u1 u2 u3 u4 u5 u6 u7) b #[u0,u1,u2,u3,u4,u5,u6,u7] t:=
 have h0:=bxset h 0 u0 (ds:=#[u0,z1,z2,z3,z4,z5,z6,z7]) rfl
 have h1:=bxset h0 1 u1 (ds:=#[u0,u1,z2,z3,z4,z5,z6,z7]) rfl
 have h2:=bxset h1 2 u2 (ds:=#[u0,u1,u2,z3,z4,z5,z6,z7]) rfl
 have h3:=bxset h2 3 u3 (ds:=#[u0,u1,u2,u3,z4,z5,z6,z7]) rfl
 have h4:=bxset h3 4 u4 (ds:=#[u0,u1,u2,u3,u4,z5,z6,z7]) rfl
 have h5:=bxset h4 5 u5 (ds:=#[u0,u1,u2,u3,u4,u5,z6,z7]) rfl
 have h6:=bxset h5 6 u6 (ds:=#[u0,u1,u2,u3,u4,u5,u6,z7]) rfl
 bxset h6 7 u7 rfl
theorem bxfar8 {W:World} {b b':Nat} {cs:Array Value} {t:TypeId} (h:Bx W b cs t) (hb:b≠b') (u0 u1 u2 u3 u4 u5 u6 u7:Value):Bx (put8 W b' u0 u1 u2 u3 u4 u5 u6 u7) b cs t:=(((bxfar5 h hb u0 u1 u2 u3 u4).other hb 5 u5).other hb 6 u6).other hb 7 u7
theorem fr_put5 {G:Nat→Prop} {x W:World} (h:Fr G x W) {b:Nat} (hb:G b∨x.heap.size≤b) (u0 u1 u2 u3 u4:Value):Fr G x (put5 W b u0 u1 u2 u3 u4):=((((h.set hb u0).set hb u1).set hb u2).set hb u3).set hb u4
theorem fr_put8 {G:Nat→Prop} {x W:World} (h:Fr G x W) {b:Nat} (hb:G b∨x.heap.size≤b) (u0 u1 u2 u3 u4 u5 u6 u7:Value):Fr G x (put8 W b u0 u1 u2 u3 u4 u5 u6 u7):=(((fr_put5 h hb u0 u1 u2 u3 u4).set hb u5).set hb u6).set hb u7
theorem sl_one {W:World} {g:Nat} {k n:Int} {s:ByteArray} {t:TypeId} (G:Nat→Prop) (h:Bx W g #[.int .i64 k,.int .i64 n,.string s,.slice none 0 0] t):Sl 4 (QX G) W (.slice (some ⟨g,0,none⟩) 1 1) [⟨k,n,s,[]⟩]:=by
 refine⟨_,1,rfl,Nat.le_refl _,fun _=>⟨g,0,rfl,fun i x hx => ?_⟩⟩
 cases i with
 | succ i=>simp at hx
 | zero =>
  simp only[List.getElem?_cons_zero,Option.some.injEq] at hx
  subst hx
  obtain⟨q0,q1,q2,q3⟩:=h.four
  refine⟨[.int .i64 k,.int .i64 n,.string s,.slice none 0 0],⟨_,rfl,Sl.nil _ _ _,faro_nil _⟩,rfl,fun j y hy => ?_⟩
  rcases j with _ | _ | _ | _ | j
  · simp at hy; subst hy; simpa using q0
  · simp at hy; subst hy; simpa using q1
  · simp at hy; subst hy; simpa using q2
  · simp at hy; subst hy; simpa using q3
  · simp at hy
theorem faro_at {G:Nat→Prop} {g n c:Nat} (h:¬ G g):FarO G (.slice (some ⟨g,0,none⟩) n c):=fun b o n' c' e hn=>by
 injection e with e
 injection e with e
 injection e with e
 subst e; exact h
theorem dom_u (A:Option Addr) (m c:Nat) (n:Int) (ts:List Tv) (k0:Nat) (w:World) (H:Toks w (.slice A m c) ts) (hl:ts.length≤10000) (hk0:k0≤ts.length) {β:Type} {F:R β} {q:Bool × List (Int × Int)→P β} (h:F=bnd dom q n (ts.drop k0)) :
 Calls Tryz.prog 139 #[.agg #[.slice A m c,.int .i64 (k0:Int),.int .i64 n,.int .i64 0,.int .i64 0]] w fun e w'=>∃ (i' at' er':Int) (d:Bool × List (Int × Int)) (C:Option Addr) (m' c':Nat),e = .returned (.tuple #[.agg #[.slice A m c,.int .i64 i',.int .i64 n,.int .i64 at',.int .i64 er'],.bool d.1,.slice C m' c'])∧Th ts n F (q d) i' at' er'∧Sl 2 QR w' (.slice C m' c') d.2∧FarO (Old w) (.slice C m' c')∧Since w w':=by
 refine (dom_ok A m c n ts k0 w H hl hk0).mono ?_
 rintro e w' ⟨i',at',er',d,bq,C,m',c',rfl,h1,rfl,h2,h3,h4⟩
 refine⟨i',at',er',d,C,m',c',rfl,?_,h2,h3,h4⟩
 rcases h1 with ⟨k,hF,hk,e1,e2,e3⟩ | ⟨p,x,hF,he⟩
 · exact .inl ⟨k,h.trans (by simp only[bnd,R.bind,hF,ret]),hk,e1,e2,e3⟩
 · exact .inr ⟨p,x,h.trans (by simp only[bnd,R.bind,hF]),he⟩
theorem variable_ok (A:Option Addr) (m c:Nat) (n:Int) (ts:List Tv) (k0:Nat) (w:World) (H:Toks w (.slice A m c) ts) (hl:ts.length≤10000) (hk0:k0≤ts.length) :
 Calls Tryz.prog 109 #[.agg #[.slice A m c,.int .i64 (k0:Int),.int .i64 n,.int .i64 0,.int .i64 0]] w (Got (VI w) ZI A m c n ts (variable_ n (ts.drop k0)) w):=by
 obtain⟨r,hr⟩:∃ r,r=variable_ n (ts.drop k0):=⟨_,rfl⟩
 rw[← hr]
 have HTL:=lH hl
 have hq:=hr
 unfold variable_ at hq
 simp only[flag,bnd_alt,bnd_assoc,bnd_ret,bnd_if] at hq
 have DM:=lH (fun W (kk:Since w W)=>dom_u A m c n ts k0 W (H.since kk) hl hk0 hq)
 have TC:=lH (fun W (kk:Since w W) (q:Unit→P It) (i a e:Int) (h:Th ts n r (bnd (take [58]) q) i a e)=>take_u A m c n ts ⟨#[58]⟩ [58] rfl (by decide) W (H.since kk) hl h)
 have TO:=lH (fun W (kk:Since w W) (q:Unit→P It) (i a e:Int) (h:Th ts n r (bnd (take [111,117,116,112,117,116,95,118,97,114]) q) i a e)=>take_u A m c n ts ⟨#[111,117,116,112,117,116,95,118,97,114]⟩ [111,117,116,112,117,116,95,118,97,114] rfl (by decide) W (H.since kk) hl h)
 have NM:=lH (fun W (kk:Since w W) (q:ByteArray→P It) (i a e:Int) (h:Th ts n r (bnd name q) i a e)=>name_u A m c n ts W (H.since kk) hl h)
 have PL:=lH (fun W (kk:Since w W) (q:Pl→P It) (i a e:Int) (h:Th ts n r (bnd plain q) i a e)=>plain_u A m c n ts W (H.since kk) hl h)
 have I2:=lH (fun W (kk:Since w W) (i a e:Int) (h:(∃ k:Nat,k≤ts.length∧i=(k:Int)∧a=0∧e=0)∨e≠0)=>is_u A m c n ts ⟨#[58,58]⟩ [58,58] rfl (by decide) W (H.since kk) h)
 have IE:=lH (fun W (kk:Since w W) (i a e:Int) (h:(∃ k:Nat,k≤ts.length∧i=(k:Int)∧a=0∧e=0)∨e≠0)=>is_u A m c n ts ⟨#[61]⟩ [61] rfl (by decide) W (H.since kk) h)
 clear H hr hq hl hk0
 have X1:=lH (bx_new (Since.refl w) #[.slice A m c,.int .i64 (k0:Int),.int .i64 n,.int .i64 0,.int .i64 0] 127 (g:=w.heap.size) (by simp))
 have S2:=lH (Since.trans (Since.refl w) (sA _ (.cells #[.slice A m c,.int .i64 (k0:Int),.int .i64 n,.int .i64 0,.int .i64 0] 127)))
 have a1_:=sal S2.out (.cells #[.slice none 0 0,.int .i64 0,.int .i64 0,.int .i64 0,.int .i64 0] 127)
 have X3:=lH (Bx.since X1.out a1_)
 have X4:=lH (bx_new S2.out #[.slice none 0 0,.int .i64 0,.int .i64 0,.int .i64 0,.int .i64 0] 127 (g:=w.heap.size+1) (by simp))
 have S5:=lH (Since.trans S2.out a1_)
 have a2_:=sal S5.out (.cells #[.int .i64 0,.string ⟨#[]⟩,.bool false,.slice none 0 0,.int .i64 0,.bool false,.slice none 0 0,.int .i64 0] 28)
 have X6:=lH (Bx.since X3.out a2_)
 have X7:=lH (Bx.since X4.out a2_)
 have X8:=lH (bx_new S5.out #[.int .i64 0,.string ⟨#[]⟩,.bool false,.slice none 0 0,.int .i64 0,.bool false,.slice none 0 0,.int .i64 0] 28 (g:=w.heap.size+1+1) (by simp))
 have S9:=lH (Since.trans S5.out a2_)
 obtain⟨_,_,_,_,_⟩:=bx5 X6.out
 obtain⟨_,_,_,_,_⟩:=bx5' X6.out
 go_enter Tryz.func109,Tryz.ntmps109
 go_wp2_with fail
 (with_reducible refine (DM.out _ S9.out).mono ?_)
 rintro e1 w1 ⟨i1,a1,r1,d,C,m1,c1,rfl,t1,d1,d2,h1⟩
 have z_w1:=h1.size; try simp at z_w1
 have a3_:=sal (Since.trans S9.out h1) (.cells #[.slice A m c,.int .i64 i1,.int .i64 n,.int .i64 a1,.int .i64 r1] 127)
 have X10:=lH (Bx.since (Bx.since X6.out h1) a3_)
 have X11:=lH (Bx.since (Bx.since X7.out h1) a3_)
 have X12:=lH (Bx.since (Bx.since X8.out h1) a3_)
 have X13:=lH (bx_new (Since.trans S9.out h1) #[.slice A m c,.int .i64 i1,.int .i64 n,.int .i64 a1,.int .i64 r1] 127 (g:=w1.heap.size) (by simp))
 have S14:=lH (Since.trans (Since.trans S9.out h1) a3_)
 have F15:=lH (Fr.then_ (Fr.refl (Lo (w.heap.size+3)) w1) a3_)
 go_wp2_with fail
 (with_reducible refine (TC.out _ S14.out _ _ _ _ t1).mono ?_)
 rintro e2 w2 ⟨i2,a2,r2,rfl,t2,h2⟩
 have z_w2:=h2.size; try simp at z_w2
 go_wp2_with fail
 (with_reducible refine (NM.out _ (Since.trans S14.out h2) _ _ _ _ t2).mono ?_)
 rintro e3 w3 ⟨i3,a3,r3,word,rfl,t3,h3⟩
 have z_w3:=h3.size; try simp at z_w3
 have u4_:=h2.trans h3
 obtain⟨_,_,_,_,_⟩:=bx5 (Bx.since X10.out u4_)
 obtain⟨_,_,_,_,_⟩:=bx5' (Bx.since X10.out u4_)
 have X16:=bp5 (Bx.since X10.out u4_) A m c i3 n a3 r3
 have X17:=bf5 (Bx.since X11.out u4_) (b':=w.heap.size) (by omega) A m c i3 n a3 r3
 have X18:=bf5 (Bx.since X12.out u4_) (b':=w.heap.size) (by omega) A m c i3 n a3 r3
 have S19:=sp5 (Since.trans S14.out u4_) (b:=w.heap.size) (by omega) A m c i3 n a3 r3
 have F20:=lH (fr_put5 (Fr.then_ (Fr.then_ F15.out h2) h3) (b:=w.heap.size) (by first | exact .inl (show _<_ by omega) | exact .inr (by omega)) (.slice A m c) (.int .i64 i3) (.int .i64 n) (.int .i64 a3) (.int .i64 r3))
 have a5_:=sal S19.out (.cells #[.int .i64 2,.string word,.bool d.1,.slice C m1 c1,.int .i64 0,.bool false,.slice none 0 0,.int .i64 0] 28)
 have X21:=lH (Bx.since X16.out a5_)
 have X22:=lH (Bx.since X17.out a5_)
 have X23:=lH (Bx.since X18.out a5_)
 have X24:=lH (bx_new S19.out #[.int .i64 2,.string word,.bool d.1,.slice C m1 c1,.int .i64 0,.bool false,.slice none 0 0,.int .i64 0] 28 (g:=w3.heap.size) (by simp))
 have S25:=lH (Since.trans S19.out a5_)
 have F26:=lH (Fr.then_ F20.out a5_)
 obtain⟨_,_,_,_,_⟩:=bx5 X21.out
 obtain⟨_,_,_,_,_⟩:=bx5' X21.out
 go_wp2_with fail
 (with_reducible refine (I2.out _ S25.out _ _ _ (Th.st t3)).mono ?_)
 rintro e4 w4 ⟨b4,rfl,hb4,h4⟩
 have z_w4:=h4.size; try simp at z_w4
 cases b4 with
 | false =>
  have t4:=Th.no t3 hb4
  obtain⟨_,_,_,_,_⟩:=bx5 (Bx.since X21.out h4)
  obtain⟨_,_,_,_,_⟩:=bx5' (Bx.since X21.out h4)
  go_wp2_with fail
  (with_reducible refine (IE.out _ (Since.trans S25.out h4) _ _ _ (Th.st t4)).mono ?_)
  rintro e7 w7 ⟨b7,rfl,hb7,h7⟩
  have z_w7:=h7.size; try simp at z_w7
  cases b7 with
  | false =>
   have t8:=Th.no t4 hb7
   have u6_:=h4.trans h7
   obtain⟨_,_,_,_,_⟩:=bx5 (Bx.since X21.out u6_)
   obtain⟨_,_,_,_,_⟩:=bx5' (Bx.since X21.out u6_)
   obtain⟨_,_,_,_,_,_,_,_⟩:=bx8 (Bx.since X24.out u6_)
   obtain⟨_,_,_,_,_,_,_,_⟩:=bx8' (Bx.since X24.out u6_)
   obtain⟨ca0,ca1,ca2,ca3,ca4⟩:=bx5 (Bx.since X22.out u6_)
   obtain⟨_,_,_,_,_⟩:=bx5' (Bx.since X22.out u6_)
   obtain⟨cz0,cz1,cz2,cz3,cz4,cz5,cz6,cz7⟩:=bx8 (Bx.since X23.out u6_)
   obtain⟨_,_,_,_,_,_,_,_⟩:=bx8' (Bx.since X23.out u6_)
   have X27:=bf5 (Bx.since X21.out u6_) (b':=w.heap.size+1) (by omega) A m c i3 n a3 r3
   have X28:=bp5 (Bx.since X22.out u6_) A m c i3 n a3 r3
   have X29:=bf5 (Bx.since X23.out u6_) (b':=w.heap.size+1) (by omega) A m c i3 n a3 r3
   have X30:=bf5 (Bx.since X24.out u6_) (b':=w.heap.size+1) (by omega) A m c i3 n a3 r3
   have S31:=sp5 (Since.trans S25.out u6_) (b:=w.heap.size+1) (by omega) A m c i3 n a3 r3
   have F32:=lH (fr_put5 (Fr.then_ (Fr.then_ F26.out h4) h7) (b:=w.heap.size+1) (by first | exact .inl (show _<_ by omega) | exact .inr (by omega)) (.slice A m c) (.int .i64 i3) (.int .i64 n) (.int .i64 a3) (.int .i64 r3))
   obtain⟨cz0,cz1,cz2,cz3,cz4,cz5,cz6,cz7⟩:=bx8 X29.out
   obtain⟨_,_,_,_,_,_,_,_⟩:=bx8' X29.out
   obtain⟨_,_,_,_,_,_,_,_⟩:=bx8 X30.out
   obtain⟨_,_,_,_,_,_,_,_⟩:=bx8' X30.out
   go_wp2
   go_region
   go_wp2
   have X33:=lH (bxfar8 X27.out (b':=w.heap.size+1+1) (by omega) (.int .i64 2) (.string word) (.bool d.1) (.slice C m1 c1) (.int .i64 0) (.bool false) (.slice none 0 0) (.int .i64 0))
   have X34:=lH (bxfar8 X28.out (b':=w.heap.size+1+1) (by omega) (.int .i64 2) (.string word) (.bool d.1) (.slice C m1 c1) (.int .i64 0) (.bool false) (.slice none 0 0) (.int .i64 0))
   have X35:=lH (bxput8 X29.out (.int .i64 2) (.string word) (.bool d.1) (.slice C m1 c1) (.int .i64 0) (.bool false) (.slice none 0 0) (.int .i64 0))
   have X36:=lH (bxfar8 X30.out (b':=w.heap.size+1+1) (by omega) (.int .i64 2) (.string word) (.bool d.1) (.slice C m1 c1) (.int .i64 0) (.bool false) (.slice none 0 0) (.int .i64 0))
   have S37:=lH (since_put8 S31.out (b:=w.heap.size+1+1) (by omega) (.int .i64 2) (.string word) (.bool d.1) (.slice C m1 c1) (.int .i64 0) (.bool false) (.slice none 0 0) (.int .i64 0))
   have F38:=lH (fr_put8 F32.out (b:=w.heap.size+1+1) (by first | exact .inl (show _<_ by omega) | exact .inr (by omega)) (.int .i64 2) (.string word) (.bool d.1) (.slice C m1 c1) (.int .i64 0) (.bool false) (.slice none 0 0) (.int .i64 0))
   refine bodyPost_ret (v:=.tuple #[.agg #[.slice A m c,.int .i64 i3,.int .i64 n,.int .i64 a3,.int .i64 r3],.agg #[.int .i64 2,.string word,.bool d.1,.slice C m1 c1,.int .i64 0,.bool false,.slice none 0 0,.int .i64 0]]) ?_ rfl ?_
   · simp[results,Tryz.results109,go_sem,ca0,ca1,ca2,ca3,ca4,cz0,cz1,cz2,cz3,cz4,cz5,cz6,cz7]
   · exact Th.got t8 (V:=VI w) (fun _=>⟨_,_,rfl,(Fr.then_ F38.out (Since.drew (Since.refl _))).slR d1 (d2.mono (fun b hb=>by have:b<w.heap.size+3:=hb; show b<_; simp; omega)),d2.mono (fun b hb=>by have:b<w.heap.size:=hb; show b<_; simp; omega),Sl.nil _ _ _,faro_nil _⟩) ⟨_,_,_,_,_,_,_,_,_,_,_,_,rfl⟩ (Since.trans S37.out (Since.drew (Since.refl _)))
  | true =>
   obtain⟨t8,l8a,l8b,-⟩:=Th.yes t4 hb7
   have hl8:=HTL.out
   have u7_:=h4.trans h7
   obtain⟨_,_,_,_,_⟩:=bx5 (Bx.since X21.out u7_)
   obtain⟨_,_,_,_,_⟩:=bx5' (Bx.since X21.out u7_)
   go_wp2_with fail
   (with_reducible refine (next_any A m c n i3 a3 r3 _ (by omega) (by omega)).mono ?_)
   rintro e8 w8 ⟨rfl,h8⟩
   clear hl8 l8a l8b
   have z_w8:=h8.size; try simp at z_w8
   go_wp2_with fail
   (with_reducible refine (PL.out _ (Since.trans (Since.trans (Since.trans S25.out h4) h7) h8) _ _ _ _ t8).mono ?_)
   rintro e9 w9 ⟨i9,a9,r9,y,rfl,t9,h9⟩
   have z_w9:=h9.size; try simp at z_w9
   have a8_:=sal (Since.trans (Since.trans (Since.trans (Since.trans S25.out h4) h7) h8) h9) (.cells #[.slice A m c,.int .i64 i9,.int .i64 n,.int .i64 a9,.int .i64 r9] 127)
   have X27:=lH (Bx.since (Bx.since (Bx.since (Bx.since (Bx.since X21.out h4) h7) h8) h9) a8_)
   have X28:=lH (Bx.since (Bx.since (Bx.since (Bx.since (Bx.since X22.out h4) h7) h8) h9) a8_)
   have X29:=lH (Bx.since (Bx.since (Bx.since (Bx.since (Bx.since X23.out h4) h7) h8) h9) a8_)
   have X30:=lH (Bx.since (Bx.since (Bx.since (Bx.since (Bx.since X24.out h4) h7) h8) h9) a8_)
   have X31:=lH (bx_new (Since.trans (Since.trans (Since.trans (Since.trans S25.out h4) h7) h8) h9) #[.slice A m c,.int .i64 i9,.int .i64 n,.int .i64 a9,.int .i64 r9] 127 (g:=w9.heap.size) (by simp))
   have S32:=lH (Since.trans (Since.trans (Since.trans (Since.trans (Since.trans S25.out h4) h7) h8) h9) a8_)
   have F33:=lH (Fr.then_ (Fr.then_ (Fr.then_ (Fr.then_ (Fr.then_ F26.out h4) h7) h8) h9) a8_)
   have X34:=lH (Bx.since X27.out (sA _ (.cells #[.int .i64 y.k,.int .i64 y.n,.string y.s,.slice none 0 0] 45)))
   have X35:=lH (Bx.since X28.out (sA _ (.cells #[.int .i64 y.k,.int .i64 y.n,.string y.s,.slice none 0 0] 45)))
   have X36:=lH (Bx.since X29.out (sA _ (.cells #[.int .i64 y.k,.int .i64 y.n,.string y.s,.slice none 0 0] 45)))
   have X37:=lH (Bx.since X30.out (sA _ (.cells #[.int .i64 y.k,.int .i64 y.n,.string y.s,.slice none 0 0] 45)))
   have X38:=lH (Bx.since X31.out (sA _ (.cells #[.int .i64 y.k,.int .i64 y.n,.string y.s,.slice none 0 0] 45)))
   have X39:=lH (bx_new S32.out #[.int .i64 y.k,.int .i64 y.n,.string y.s,.slice none 0 0] 45 (g:=w9.heap.size+1) (by simp))
   have S40:=lH (Since.trans S32.out (sA _ (.cells #[.int .i64 y.k,.int .i64 y.n,.string y.s,.slice none 0 0] 45)))
   have F41:=lH (Fr.then_ F33.out (sA _ (.cells #[.int .i64 y.k,.int .i64 y.n,.string y.s,.slice none 0 0] 45)))
   obtain⟨_,_,_,_,_⟩:=bx5 X34.out
   obtain⟨_,_,_,_,_⟩:=bx5' X34.out
   obtain⟨_,_,_,_,_,_,_,_⟩:=bx8 X37.out
   obtain⟨_,_,_,_,_,_,_,_⟩:=bx8' X37.out
   obtain⟨_,_,_,_⟩:=bx4 X39.out
   obtain⟨_,_,_,_⟩:=bx4' X39.out
   obtain⟨_,_,_,_,_⟩:=bx5 X38.out
   obtain⟨_,_,_,_,_⟩:=bx5' X38.out
   have X42:=bp5 X34.out A m c i9 n a9 r9
   have X43:=bf5 X35.out (b':=w.heap.size) (by omega) A m c i9 n a9 r9
   have X44:=bf5 X36.out (b':=w.heap.size) (by omega) A m c i9 n a9 r9
   have X45:=bf5 X37.out (b':=w.heap.size) (by omega) A m c i9 n a9 r9
   have X46:=bf5 X39.out (b':=w.heap.size) (by omega) A m c i9 n a9 r9
   have S47:=sp5 S40.out (b:=w.heap.size) (by omega) A m c i9 n a9 r9
   have F48:=lH (fr_put5 F41.out (b:=w.heap.size) (by first | exact .inl (show _<_ by omega) | exact .inr (by omega)) (.slice A m c) (.int .i64 i9) (.int .i64 n) (.int .i64 a9) (.int .i64 r9))
   obtain⟨_,_,_,_,_⟩:=bx5 X42.out
   obtain⟨_,_,_,_,_⟩:=bx5' X42.out
   obtain⟨_,_,_,_,_,_,_,_⟩:=bx8 X45.out
   obtain⟨_,_,_,_,_,_,_,_⟩:=bx8' X45.out
   obtain⟨_,_,_,_⟩:=bx4 X46.out
   obtain⟨_,_,_,_⟩:=bx4' X46.out
   have X49:=lH (Bx.since X42.out (sA _ (.cells #[.int .i64 y.k,.int .i64 y.n,.string y.s,.slice none 0 0] 45)))
   have X50:=lH (Bx.since X43.out (sA _ (.cells #[.int .i64 y.k,.int .i64 y.n,.string y.s,.slice none 0 0] 45)))
   have X51:=lH (Bx.since X44.out (sA _ (.cells #[.int .i64 y.k,.int .i64 y.n,.string y.s,.slice none 0 0] 45)))
   have X52:=lH (Bx.since X45.out (sA _ (.cells #[.int .i64 y.k,.int .i64 y.n,.string y.s,.slice none 0 0] 45)))
   have X53:=lH (bx_new S47.out #[.int .i64 y.k,.int .i64 y.n,.string y.s,.slice none 0 0] 45 (g:=w9.heap.size+1+1) (by simp))
   have S54:=lH (Since.trans S47.out (sA _ (.cells #[.int .i64 y.k,.int .i64 y.n,.string y.s,.slice none 0 0] 45)))
   have F55:=lH (Fr.then_ F48.out (sA _ (.cells #[.int .i64 y.k,.int .i64 y.n,.string y.s,.slice none 0 0] 45)))
   obtain⟨_,_,_,_,_⟩:=bx5 X49.out
   obtain⟨_,_,_,_,_⟩:=bx5' X49.out
   obtain⟨_,_,_,_,_,_,_,_⟩:=bx8 X52.out
   obtain⟨_,_,_,_,_,_,_,_⟩:=bx8' X52.out
   have X56:=lH (Bx.other X49.out (b':=w3.heap.size) (by omega) 6 (.slice (some ⟨w9.heap.size+1+1,0,none⟩) 1 1))
   have X57:=lH (Bx.other X50.out (b':=w3.heap.size) (by omega) 6 (.slice (some ⟨w9.heap.size+1+1,0,none⟩) 1 1))
   have X58:=lH (Bx.other X51.out (b':=w3.heap.size) (by omega) 6 (.slice (some ⟨w9.heap.size+1+1,0,none⟩) 1 1))
   have X59:=lH (bxset X52.out 6 (.slice (some ⟨w9.heap.size+1+1,0,none⟩) 1 1) (ds:=#[.int .i64 2,.string word,.bool d.1,.slice C m1 c1,.int .i64 0,.bool false,.slice (some ⟨w9.heap.size+1+1,0,none⟩) 1 1,.int .i64 0]) rfl)
   have X60:=lH (Bx.other X53.out (b':=w3.heap.size) (by omega) 6 (.slice (some ⟨w9.heap.size+1+1,0,none⟩) 1 1))
   have S61:=lH (Since.set S54.out (p:=⟨w3.heap.size,6,none⟩) (show w.heap.size≤w3.heap.size by omega) (.slice (some ⟨w9.heap.size+1+1,0,none⟩) 1 1))
   have F62:=lH (Fr.set F55.out (b:=w3.heap.size) (i:=6) (by first | exact .inl (show _<_ by omega) | exact .inr (by omega)) (.slice (some ⟨w9.heap.size+1+1,0,none⟩) 1 1))
   obtain⟨_,_,_,_,_⟩:=bx5 X56.out
   obtain⟨_,_,_,_,_⟩:=bx5' X56.out
   obtain⟨_,_,_,_,_,_,_,_⟩:=bx8 X59.out
   obtain⟨_,_,_,_,_,_,_,_⟩:=bx8' X59.out
   obtain⟨ca0,ca1,ca2,ca3,ca4⟩:=bx5 X57.out
   obtain⟨_,_,_,_,_⟩:=bx5' X57.out
   obtain⟨cz0,cz1,cz2,cz3,cz4,cz5,cz6,cz7⟩:=bx8 X58.out
   obtain⟨_,_,_,_,_,_,_,_⟩:=bx8' X58.out
   have X63:=bf5 X56.out (b':=w.heap.size+1) (by omega) A m c i9 n a9 r9
   have X64:=bp5 X57.out A m c i9 n a9 r9
   have X65:=bf5 X58.out (b':=w.heap.size+1) (by omega) A m c i9 n a9 r9
   have X66:=bf5 X59.out (b':=w.heap.size+1) (by omega) A m c i9 n a9 r9
   have X67:=bf5 X60.out (b':=w.heap.size+1) (by omega) A m c i9 n a9 r9
   have S68:=sp5 S61.out (b:=w.heap.size+1) (by omega) A m c i9 n a9 r9
   have F69:=lH (fr_put5 F62.out (b:=w.heap.size+1) (by first | exact .inl (show _<_ by omega) | exact .inr (by omega)) (.slice A m c) (.int .i64 i9) (.int .i64 n) (.int .i64 a9) (.int .i64 r9))
   obtain⟨cz0,cz1,cz2,cz3,cz4,cz5,cz6,cz7⟩:=bx8 X65.out
   obtain⟨_,_,_,_,_,_,_,_⟩:=bx8' X65.out
   obtain⟨_,_,_,_,_,_,_,_⟩:=bx8 X66.out
   obtain⟨_,_,_,_,_,_,_,_⟩:=bx8' X66.out
   go_wp2
   go_region
   go_wp2
   have X70:=lH (bxfar8 X63.out (b':=w.heap.size+1+1) (by omega) (.int .i64 2) (.string word) (.bool d.1) (.slice C m1 c1) (.int .i64 0) (.bool false) (.slice (some ⟨w9.heap.size+1+1,0,none⟩) 1 1) (.int .i64 0))
   have X71:=lH (bxfar8 X64.out (b':=w.heap.size+1+1) (by omega) (.int .i64 2) (.string word) (.bool d.1) (.slice C m1 c1) (.int .i64 0) (.bool false) (.slice (some ⟨w9.heap.size+1+1,0,none⟩) 1 1) (.int .i64 0))
   have X72:=lH (bxput8 X65.out (.int .i64 2) (.string word) (.bool d.1) (.slice C m1 c1) (.int .i64 0) (.bool false) (.slice (some ⟨w9.heap.size+1+1,0,none⟩) 1 1) (.int .i64 0))
   have X73:=lH (bxfar8 X66.out (b':=w.heap.size+1+1) (by omega) (.int .i64 2) (.string word) (.bool d.1) (.slice C m1 c1) (.int .i64 0) (.bool false) (.slice (some ⟨w9.heap.size+1+1,0,none⟩) 1 1) (.int .i64 0))
   have X74:=lH (bxfar8 X67.out (b':=w.heap.size+1+1) (by omega) (.int .i64 2) (.string word) (.bool d.1) (.slice C m1 c1) (.int .i64 0) (.bool false) (.slice (some ⟨w9.heap.size+1+1,0,none⟩) 1 1) (.int .i64 0))
   have S75:=lH (since_put8 S68.out (b:=w.heap.size+1+1) (by omega) (.int .i64 2) (.string word) (.bool d.1) (.slice C m1 c1) (.int .i64 0) (.bool false) (.slice (some ⟨w9.heap.size+1+1,0,none⟩) 1 1) (.int .i64 0))
   have F76:=lH (fr_put8 F69.out (b:=w.heap.size+1+1) (by first | exact .inl (show _<_ by omega) | exact .inr (by omega)) (.int .i64 2) (.string word) (.bool d.1) (.slice C m1 c1) (.int .i64 0) (.bool false) (.slice (some ⟨w9.heap.size+1+1,0,none⟩) 1 1) (.int .i64 0))
   refine bodyPost_ret (v:=.tuple #[.agg #[.slice A m c,.int .i64 i9,.int .i64 n,.int .i64 a9,.int .i64 r9],.agg #[.int .i64 2,.string word,.bool d.1,.slice C m1 c1,.int .i64 0,.bool false,.slice (some ⟨w9.heap.size+1+1,0,none⟩) 1 1,.int .i64 0]]) ?_ rfl ?_
   · simp[results,Tryz.results109,go_sem,ca0,ca1,ca2,ca3,ca4,cz0,cz1,cz2,cz3,cz4,cz5,cz6,cz7]
   · exact Th.got t9 (V:=VI w) (fun _=>⟨_,_,rfl,(Fr.then_ F76.out (Since.drew (Since.refl _))).slR d1 (d2.mono (fun b hb=>by have:b<w.heap.size+3:=hb; show b<_; simp; omega)),d2.mono (fun b hb=>by have:b<w.heap.size:=hb; show b<_; simp; omega),sl_one _ (Bx.since X74.out (Since.drew (Since.refl _))),faro_at (by show ¬ _<_; omega)⟩) ⟨_,_,_,_,_,_,_,_,_,_,_,_,rfl⟩ (Since.trans S75.out (Since.drew (Since.refl _)))
 | true =>
  obtain⟨t4,l4a,l4b,-⟩:=Th.yes t3 hb4
  have hl4:=HTL.out
  obtain⟨_,_,_,_,_⟩:=bx5 (Bx.since X21.out h4)
  obtain⟨_,_,_,_,_⟩:=bx5' (Bx.since X21.out h4)
  go_wp2_with fail
  (with_reducible refine (next_any A m c n i3 a3 r3 _ (by omega) (by omega)).mono ?_)
  rintro e5 w5 ⟨rfl,h5⟩
  clear hl4 l4a l4b
  have z_w5:=h5.size; try simp at z_w5
  go_wp2_with fail
  (with_reducible refine (TO.out _ (Since.trans (Since.trans S25.out h4) h5) _ _ _ _ t4).mono ?_)
  rintro e6 w6 ⟨i6,a6,r6,rfl,t6,h6⟩
  have z_w6:=h6.size; try simp at z_w6
  have u9_:=h4.trans (h5.trans h6)
  obtain⟨_,_,_,_,_⟩:=bx5 (Bx.since X21.out u9_)
  obtain⟨_,_,_,_,_⟩:=bx5' (Bx.since X21.out u9_)
  obtain⟨_,_,_,_,_,_,_,_⟩:=bx8 (Bx.since X24.out u9_)
  obtain⟨_,_,_,_,_,_,_,_⟩:=bx8' (Bx.since X24.out u9_)
  have X27:=bp5 (Bx.since X21.out u9_) A m c i6 n a6 r6
  have X28:=bf5 (Bx.since X22.out u9_) (b':=w.heap.size) (by omega) A m c i6 n a6 r6
  have X29:=bf5 (Bx.since X23.out u9_) (b':=w.heap.size) (by omega) A m c i6 n a6 r6
  have X30:=bf5 (Bx.since X24.out u9_) (b':=w.heap.size) (by omega) A m c i6 n a6 r6
  have S31:=sp5 (Since.trans S25.out u9_) (b:=w.heap.size) (by omega) A m c i6 n a6 r6
  have F32:=lH (fr_put5 (Fr.then_ (Fr.then_ (Fr.then_ F26.out h4) h5) h6) (b:=w.heap.size) (by first | exact .inl (show _<_ by omega) | exact .inr (by omega)) (.slice A m c) (.int .i64 i6) (.int .i64 n) (.int .i64 a6) (.int .i64 r6))
  obtain⟨_,_,_,_,_⟩:=bx5 X27.out
  obtain⟨_,_,_,_,_⟩:=bx5' X27.out
  obtain⟨_,_,_,_,_,_,_,_⟩:=bx8 X30.out
  obtain⟨_,_,_,_,_,_,_,_⟩:=bx8' X30.out
  have X33:=lH (Bx.other X27.out (b':=w3.heap.size) (by omega) 5 (.bool true))
  have X34:=lH (Bx.other X28.out (b':=w3.heap.size) (by omega) 5 (.bool true))
  have X35:=lH (Bx.other X29.out (b':=w3.heap.size) (by omega) 5 (.bool true))
  have X36:=lH (bxset X30.out 5 (.bool true) (ds:=#[.int .i64 2,.string word,.bool d.1,.slice C m1 c1,.int .i64 0,.bool true,.slice none 0 0,.int .i64 0]) rfl)
  have S37:=lH (Since.set S31.out (p:=⟨w3.heap.size,5,none⟩) (show w.heap.size≤w3.heap.size by omega) (.bool true))
  have F38:=lH (Fr.set F32.out (b:=w3.heap.size) (i:=5) (by first | exact .inl (show _<_ by omega) | exact .inr (by omega)) (.bool true))
  obtain⟨_,_,_,_,_⟩:=bx5 X33.out
  obtain⟨_,_,_,_,_⟩:=bx5' X33.out
  obtain⟨_,_,_,_,_⟩:=bx5 X33.out
  obtain⟨_,_,_,_,_⟩:=bx5' X33.out
  go_wp2_with fail
  (with_reducible refine (IE.out _ S37.out _ _ _ (Th.st t6)).mono ?_)
  rintro e7 w7 ⟨b7,rfl,hb7,h7⟩
  have z_w7:=h7.size; try simp at z_w7
  cases b7 with
  | false =>
   have t8:=Th.no t6 hb7
   obtain⟨_,_,_,_,_⟩:=bx5 (Bx.since X33.out h7)
   obtain⟨_,_,_,_,_⟩:=bx5' (Bx.since X33.out h7)
   obtain⟨_,_,_,_,_,_,_,_⟩:=bx8 (Bx.since X36.out h7)
   obtain⟨_,_,_,_,_,_,_,_⟩:=bx8' (Bx.since X36.out h7)
   obtain⟨ca0,ca1,ca2,ca3,ca4⟩:=bx5 (Bx.since X34.out h7)
   obtain⟨_,_,_,_,_⟩:=bx5' (Bx.since X34.out h7)
   obtain⟨cz0,cz1,cz2,cz3,cz4,cz5,cz6,cz7⟩:=bx8 (Bx.since X35.out h7)
   obtain⟨_,_,_,_,_,_,_,_⟩:=bx8' (Bx.since X35.out h7)
   have X39:=bf5 (Bx.since X33.out h7) (b':=w.heap.size+1) (by omega) A m c i6 n a6 r6
   have X40:=bp5 (Bx.since X34.out h7) A m c i6 n a6 r6
   have X41:=bf5 (Bx.since X35.out h7) (b':=w.heap.size+1) (by omega) A m c i6 n a6 r6
   have X42:=bf5 (Bx.since X36.out h7) (b':=w.heap.size+1) (by omega) A m c i6 n a6 r6
   have S43:=sp5 (Since.trans S37.out h7) (b:=w.heap.size+1) (by omega) A m c i6 n a6 r6
   have F44:=lH (fr_put5 (Fr.then_ F38.out h7) (b:=w.heap.size+1) (by first | exact .inl (show _<_ by omega) | exact .inr (by omega)) (.slice A m c) (.int .i64 i6) (.int .i64 n) (.int .i64 a6) (.int .i64 r6))
   obtain⟨cz0,cz1,cz2,cz3,cz4,cz5,cz6,cz7⟩:=bx8 X41.out
   obtain⟨_,_,_,_,_,_,_,_⟩:=bx8' X41.out
   obtain⟨_,_,_,_,_,_,_,_⟩:=bx8 X42.out
   obtain⟨_,_,_,_,_,_,_,_⟩:=bx8' X42.out
   go_wp2
   go_region
   go_wp2
   have X45:=lH (bxfar8 X39.out (b':=w.heap.size+1+1) (by omega) (.int .i64 2) (.string word) (.bool d.1) (.slice C m1 c1) (.int .i64 0) (.bool true) (.slice none 0 0) (.int .i64 0))
   have X46:=lH (bxfar8 X40.out (b':=w.heap.size+1+1) (by omega) (.int .i64 2) (.string word) (.bool d.1) (.slice C m1 c1) (.int .i64 0) (.bool true) (.slice none 0 0) (.int .i64 0))
   have X47:=lH (bxput8 X41.out (.int .i64 2) (.string word) (.bool d.1) (.slice C m1 c1) (.int .i64 0) (.bool true) (.slice none 0 0) (.int .i64 0))
   have X48:=lH (bxfar8 X42.out (b':=w.heap.size+1+1) (by omega) (.int .i64 2) (.string word) (.bool d.1) (.slice C m1 c1) (.int .i64 0) (.bool true) (.slice none 0 0) (.int .i64 0))
   have S49:=lH (since_put8 S43.out (b:=w.heap.size+1+1) (by omega) (.int .i64 2) (.string word) (.bool d.1) (.slice C m1 c1) (.int .i64 0) (.bool true) (.slice none 0 0) (.int .i64 0))
   have F50:=lH (fr_put8 F44.out (b:=w.heap.size+1+1) (by first | exact .inl (show _<_ by omega) | exact .inr (by omega)) (.int .i64 2) (.string word) (.bool d.1) (.slice C m1 c1) (.int .i64 0) (.bool true) (.slice none 0 0) (.int .i64 0))
   refine bodyPost_ret (v:=.tuple #[.agg #[.slice A m c,.int .i64 i6,.int .i64 n,.int .i64 a6,.int .i64 r6],.agg #[.int .i64 2,.string word,.bool d.1,.slice C m1 c1,.int .i64 0,.bool true,.slice none 0 0,.int .i64 0]]) ?_ rfl ?_
   · simp[results,Tryz.results109,go_sem,ca0,ca1,ca2,ca3,ca4,cz0,cz1,cz2,cz3,cz4,cz5,cz6,cz7]
   · exact Th.got t8 (V:=VI w) (fun _=>⟨_,_,rfl,(Fr.then_ F50.out (Since.drew (Since.refl _))).slR d1 (d2.mono (fun b hb=>by have:b<w.heap.size+3:=hb; show b<_; simp; omega)),d2.mono (fun b hb=>by have:b<w.heap.size:=hb; show b<_; simp; omega),Sl.nil _ _ _,faro_nil _⟩) ⟨_,_,_,_,_,_,_,_,_,_,_,_,rfl⟩ (Since.trans S49.out (Since.drew (Since.refl _)))
  | true =>
   obtain⟨t8,l8a,l8b,-⟩:=Th.yes t6 hb7
   have hl8:=HTL.out
   obtain⟨_,_,_,_,_⟩:=bx5 (Bx.since X33.out h7)
   obtain⟨_,_,_,_,_⟩:=bx5' (Bx.since X33.out h7)
   go_wp2_with fail
   (with_reducible refine (next_any A m c n i6 a6 r6 _ (by omega) (by omega)).mono ?_)
   rintro e8 w8 ⟨rfl,h8⟩
   clear hl8 l8a l8b
   have z_w8:=h8.size; try simp at z_w8
   go_wp2_with fail
   (with_reducible refine (PL.out _ (Since.trans (Since.trans S37.out h7) h8) _ _ _ _ t8).mono ?_)
   rintro e9 w9 ⟨i9,a9,r9,y,rfl,t9,h9⟩
   have z_w9:=h9.size; try simp at z_w9
   have a10_:=sal (Since.trans (Since.trans (Since.trans S37.out h7) h8) h9) (.cells #[.slice A m c,.int .i64 i9,.int .i64 n,.int .i64 a9,.int .i64 r9] 127)
   have X39:=lH (Bx.since (Bx.since (Bx.since (Bx.since X33.out h7) h8) h9) a10_)
   have X40:=lH (Bx.since (Bx.since (Bx.since (Bx.since X34.out h7) h8) h9) a10_)
   have X41:=lH (Bx.since (Bx.since (Bx.since (Bx.since X35.out h7) h8) h9) a10_)
   have X42:=lH (Bx.since (Bx.since (Bx.since (Bx.since X36.out h7) h8) h9) a10_)
   have X43:=lH (bx_new (Since.trans (Since.trans (Since.trans S37.out h7) h8) h9) #[.slice A m c,.int .i64 i9,.int .i64 n,.int .i64 a9,.int .i64 r9] 127 (g:=w9.heap.size) (by simp))
   have S44:=lH (Since.trans (Since.trans (Since.trans (Since.trans S37.out h7) h8) h9) a10_)
   have F45:=lH (Fr.then_ (Fr.then_ (Fr.then_ (Fr.then_ F38.out h7) h8) h9) a10_)
   have X46:=lH (Bx.since X39.out (sA _ (.cells #[.int .i64 y.k,.int .i64 y.n,.string y.s,.slice none 0 0] 45)))
   have X47:=lH (Bx.since X40.out (sA _ (.cells #[.int .i64 y.k,.int .i64 y.n,.string y.s,.slice none 0 0] 45)))
   have X48:=lH (Bx.since X41.out (sA _ (.cells #[.int .i64 y.k,.int .i64 y.n,.string y.s,.slice none 0 0] 45)))
   have X49:=lH (Bx.since X42.out (sA _ (.cells #[.int .i64 y.k,.int .i64 y.n,.string y.s,.slice none 0 0] 45)))
   have X50:=lH (Bx.since X43.out (sA _ (.cells #[.int .i64 y.k,.int .i64 y.n,.string y.s,.slice none 0 0] 45)))
   have X51:=lH (bx_new S44.out #[.int .i64 y.k,.int .i64 y.n,.string y.s,.slice none 0 0] 45 (g:=w9.heap.size+1) (by simp))
   have S52:=lH (Since.trans S44.out (sA _ (.cells #[.int .i64 y.k,.int .i64 y.n,.string y.s,.slice none 0 0] 45)))
   have F53:=lH (Fr.then_ F45.out (sA _ (.cells #[.int .i64 y.k,.int .i64 y.n,.string y.s,.slice none 0 0] 45)))
   obtain⟨_,_,_,_,_⟩:=bx5 X46.out
   obtain⟨_,_,_,_,_⟩:=bx5' X46.out
   obtain⟨_,_,_,_,_,_,_,_⟩:=bx8 X49.out
   obtain⟨_,_,_,_,_,_,_,_⟩:=bx8' X49.out
   obtain⟨_,_,_,_⟩:=bx4 X51.out
   obtain⟨_,_,_,_⟩:=bx4' X51.out
   obtain⟨_,_,_,_,_⟩:=bx5 X50.out
   obtain⟨_,_,_,_,_⟩:=bx5' X50.out
   have X54:=bp5 X46.out A m c i9 n a9 r9
   have X55:=bf5 X47.out (b':=w.heap.size) (by omega) A m c i9 n a9 r9
   have X56:=bf5 X48.out (b':=w.heap.size) (by omega) A m c i9 n a9 r9
   have X57:=bf5 X49.out (b':=w.heap.size) (by omega) A m c i9 n a9 r9
   have X58:=bf5 X51.out (b':=w.heap.size) (by omega) A m c i9 n a9 r9
   have S59:=sp5 S52.out (b:=w.heap.size) (by omega) A m c i9 n a9 r9
   have F60:=lH (fr_put5 F53.out (b:=w.heap.size) (by first | exact .inl (show _<_ by omega) | exact .inr (by omega)) (.slice A m c) (.int .i64 i9) (.int .i64 n) (.int .i64 a9) (.int .i64 r9))
   obtain⟨_,_,_,_,_⟩:=bx5 X54.out
   obtain⟨_,_,_,_,_⟩:=bx5' X54.out
   obtain⟨_,_,_,_,_,_,_,_⟩:=bx8 X57.out
   obtain⟨_,_,_,_,_,_,_,_⟩:=bx8' X57.out
   obtain⟨_,_,_,_⟩:=bx4 X58.out
   obtain⟨_,_,_,_⟩:=bx4' X58.out
   have X61:=lH (Bx.since X54.out (sA _ (.cells #[.int .i64 y.k,.int .i64 y.n,.string y.s,.slice none 0 0] 45)))
   have X62:=lH (Bx.since X55.out (sA _ (.cells #[.int .i64 y.k,.int .i64 y.n,.string y.s,.slice none 0 0] 45)))
   have X63:=lH (Bx.since X56.out (sA _ (.cells #[.int .i64 y.k,.int .i64 y.n,.string y.s,.slice none 0 0] 45)))
   have X64:=lH (Bx.since X57.out (sA _ (.cells #[.int .i64 y.k,.int .i64 y.n,.string y.s,.slice none 0 0] 45)))
   have X65:=lH (bx_new S59.out #[.int .i64 y.k,.int .i64 y.n,.string y.s,.slice none 0 0] 45 (g:=w9.heap.size+1+1) (by simp))
   have S66:=lH (Since.trans S59.out (sA _ (.cells #[.int .i64 y.k,.int .i64 y.n,.string y.s,.slice none 0 0] 45)))
   have F67:=lH (Fr.then_ F60.out (sA _ (.cells #[.int .i64 y.k,.int .i64 y.n,.string y.s,.slice none 0 0] 45)))
   obtain⟨_,_,_,_,_⟩:=bx5 X61.out
   obtain⟨_,_,_,_,_⟩:=bx5' X61.out
   obtain⟨_,_,_,_,_,_,_,_⟩:=bx8 X64.out
   obtain⟨_,_,_,_,_,_,_,_⟩:=bx8' X64.out
   have X68:=lH (Bx.other X61.out (b':=w3.heap.size) (by omega) 6 (.slice (some ⟨w9.heap.size+1+1,0,none⟩) 1 1))
   have X69:=lH (Bx.other X62.out (b':=w3.heap.size) (by omega) 6 (.slice (some ⟨w9.heap.size+1+1,0,none⟩) 1 1))
   have X70:=lH (Bx.other X63.out (b':=w3.heap.size) (by omega) 6 (.slice (some ⟨w9.heap.size+1+1,0,none⟩) 1 1))
   have X71:=lH (bxset X64.out 6 (.slice (some ⟨w9.heap.size+1+1,0,none⟩) 1 1) (ds:=#[.int .i64 2,.string word,.bool d.1,.slice C m1 c1,.int .i64 0,.bool true,.slice (some ⟨w9.heap.size+1+1,0,none⟩) 1 1,.int .i64 0]) rfl)
   have X72:=lH (Bx.other X65.out (b':=w3.heap.size) (by omega) 6 (.slice (some ⟨w9.heap.size+1+1,0,none⟩) 1 1))
   have S73:=lH (Since.set S66.out (p:=⟨w3.heap.size,6,none⟩) (show w.heap.size≤w3.heap.size by omega) (.slice (some ⟨w9.heap.size+1+1,0,none⟩) 1 1))
   have F74:=lH (Fr.set F67.out (b:=w3.heap.size) (i:=6) (by first | exact .inl (show _<_ by omega) | exact .inr (by omega)) (.slice (some ⟨w9.heap.size+1+1,0,none⟩) 1 1))
   obtain⟨_,_,_,_,_⟩:=bx5 X68.out
   obtain⟨_,_,_,_,_⟩:=bx5' X68.out
   obtain⟨_,_,_,_,_,_,_,_⟩:=bx8 X71.out
   obtain⟨_,_,_,_,_,_,_,_⟩:=bx8' X71.out
   obtain⟨ca0,ca1,ca2,ca3,ca4⟩:=bx5 X69.out
   obtain⟨_,_,_,_,_⟩:=bx5' X69.out
   obtain⟨cz0,cz1,cz2,cz3,cz4,cz5,cz6,cz7⟩:=bx8 X70.out
   obtain⟨_,_,_,_,_,_,_,_⟩:=bx8' X70.out
   have X75:=bf5 X68.out (b':=w.heap.size+1) (by omega) A m c i9 n a9 r9
   have X76:=bp5 X69.out A m c i9 n a9 r9
   have X77:=bf5 X70.out (b':=w.heap.size+1) (by omega) A m c i9 n a9 r9
   have X78:=bf5 X71.out (b':=w.heap.size+1) (by omega) A m c i9 n a9 r9
   have X79:=bf5 X72.out (b':=w.heap.size+1) (by omega) A m c i9 n a9 r9
   have S80:=sp5 S73.out (b:=w.heap.size+1) (by omega) A m c i9 n a9 r9
   have F81:=lH (fr_put5 F74.out (b:=w.heap.size+1) (by first | exact .inl (show _<_ by omega) | exact .inr (by omega)) (.slice A m c) (.int .i64 i9) (.int .i64 n) (.int .i64 a9) (.int .i64 r9))
   obtain⟨cz0,cz1,cz2,cz3,cz4,cz5,cz6,cz7⟩:=bx8 X77.out
   obtain⟨_,_,_,_,_,_,_,_⟩:=bx8' X77.out
   obtain⟨_,_,_,_,_,_,_,_⟩:=bx8 X78.out
   obtain⟨_,_,_,_,_,_,_,_⟩:=bx8' X78.out
   go_wp2
   go_region
   go_wp2
   have X82:=lH (bxfar8 X75.out (b':=w.heap.size+1+1) (by omega) (.int .i64 2) (.string word) (.bool d.1) (.slice C m1 c1) (.int .i64 0) (.bool true) (.slice (some ⟨w9.heap.size+1+1,0,none⟩) 1 1) (.int .i64 0))
   have X83:=lH (bxfar8 X76.out (b':=w.heap.size+1+1) (by omega) (.int .i64 2) (.string word) (.bool d.1) (.slice C m1 c1) (.int .i64 0) (.bool true) (.slice (some ⟨w9.heap.size+1+1,0,none⟩) 1 1) (.int .i64 0))
   have X84:=lH (bxput8 X77.out (.int .i64 2) (.string word) (.bool d.1) (.slice C m1 c1) (.int .i64 0) (.bool true) (.slice (some ⟨w9.heap.size+1+1,0,none⟩) 1 1) (.int .i64 0))
   have X85:=lH (bxfar8 X78.out (b':=w.heap.size+1+1) (by omega) (.int .i64 2) (.string word) (.bool d.1) (.slice C m1 c1) (.int .i64 0) (.bool true) (.slice (some ⟨w9.heap.size+1+1,0,none⟩) 1 1) (.int .i64 0))
   have X86:=lH (bxfar8 X79.out (b':=w.heap.size+1+1) (by omega) (.int .i64 2) (.string word) (.bool d.1) (.slice C m1 c1) (.int .i64 0) (.bool true) (.slice (some ⟨w9.heap.size+1+1,0,none⟩) 1 1) (.int .i64 0))
   have S87:=lH (since_put8 S80.out (b:=w.heap.size+1+1) (by omega) (.int .i64 2) (.string word) (.bool d.1) (.slice C m1 c1) (.int .i64 0) (.bool true) (.slice (some ⟨w9.heap.size+1+1,0,none⟩) 1 1) (.int .i64 0))
   have F88:=lH (fr_put8 F81.out (b:=w.heap.size+1+1) (by first | exact .inl (show _<_ by omega) | exact .inr (by omega)) (.int .i64 2) (.string word) (.bool d.1) (.slice C m1 c1) (.int .i64 0) (.bool true) (.slice (some ⟨w9.heap.size+1+1,0,none⟩) 1 1) (.int .i64 0))
   refine bodyPost_ret (v:=.tuple #[.agg #[.slice A m c,.int .i64 i9,.int .i64 n,.int .i64 a9,.int .i64 r9],.agg #[.int .i64 2,.string word,.bool d.1,.slice C m1 c1,.int .i64 0,.bool true,.slice (some ⟨w9.heap.size+1+1,0,none⟩) 1 1,.int .i64 0]]) ?_ rfl ?_
   · simp[results,Tryz.results109,go_sem,ca0,ca1,ca2,ca3,ca4,cz0,cz1,cz2,cz3,cz4,cz5,cz6,cz7]
   · exact Th.got t9 (V:=VI w) (fun _=>⟨_,_,rfl,(Fr.then_ F88.out (Since.drew (Since.refl _))).slR d1 (d2.mono (fun b hb=>by have:b<w.heap.size+3:=hb; show b<_; simp; omega)),d2.mono (fun b hb=>by have:b<w.heap.size:=hb; show b<_; simp; omega),sl_one _ (Bx.since X86.out (Since.drew (Since.refl _))),faro_at (by show ¬ _<_; omega)⟩) ⟨_,_,_,_,_,_,_,_,_,_,_,_,rfl⟩ (Since.trans S87.out (Since.drew (Since.refl _)))
end Go.Proofs.YtjmmcnldfkjebaaGreatDoor.Doc6
