/- What the landed parser's reader holds, how its parts end, and its smallest parts. What the landed parser's tak -/
import Derived.BigRegion
import Derived.Deep.DeepCutAuto
import Derived.Deep.RegionHeld3
import Derived.WalkLawsBesides
import Derived.Test.YtjmmcnldfkjebaaGreatDoorQaf
set_option maxHeartbeats 4000000
set_option maxRecDepth 20000
namespace Go.Proofs.YtjmmcnldfkjebaaGreatDoor.Prs
open Go.RowKit
set_option linter.unusedVariables false
set_option linter.unusedSimpArgs false
open Dig Lx Tk Ps Ti
abbrev Only (b:Nat) (w w':World):Prop:=w.grownBy w' (some b)
theorem Only.refl (b:Nat) (w:World):Only b w w:=World.grownBy.refl w _
theorem Only.trans {b:Nat} {x y z:World} (h:Only b x y) (k:Only b y z):Only b x z:=
 ⟨k.os.trans h.os,k.tape.trans h.tape,k.output.trans h.output,Nat.le_trans h.size k.size,fun i hi hn=>(k.block i (Nat.lt_of_lt_of_le hi h.size) hn).trans (h.block i hi hn)⟩
theorem Only.set {b i:Nat} {x w:World} (h:Only b x w) (u:Value):Only b x (w.setCell ⟨b,i,none⟩ u):=
 ⟨h.os,h.tape,h.output,by simpa [World.setCell] using h.size,fun k hk hne=>(Below.heap_setCell w ⟨b,i,none⟩ u k (fun e=>hne (by rw[e]))).trans (h.block k hk hne)⟩
theorem Only.of {b:Nat} {w w':World} (h:Since w w'):Only b w w':=⟨h.os,h.tape,h.output,h.size,fun i hi _=>h.block i hi⟩
theorem Only.since {a w w':World} {b:Nat} (h:Since a w) (k:Only b w w') (hb:a.heap.size≤b):Since a w':=Below.grown h k h.size (fun j hj=>by injection hj with hj; omega)
theorem Only.drew {b:Nat} {x w:World} (h:Only b x w):Only b x w.drew:=h.trans (.of (Since.drew (Since.refl _)))
theorem Only.alloc {b:Nat} {x w:World} (h:Only b x w) (o:Obj):Only b x (w.alloc o):=h.trans (.of (sA _ _))
theorem Only.new {b g:Nat} {x y z:World} (h:Only b x y) (k:Only g y z) (hg:x.heap.size≤g):Only b x z:=
 ⟨k.os.trans h.os,k.tape.trans h.tape,k.output.trans h.output,Nat.le_trans h.size k.size,fun i hi hn=>(k.block i (Nat.lt_of_lt_of_le hi h.size) (fun e=>by injection e; omega)).trans (h.block i hi hn)⟩
theorem Only.bx {b g:Nat} {w w':World} {cs:Array Value} {t:TypeId} (k:Only b w w') (h:Bx w g cs t) (hg:g≠b):Bx w' g cs t:=by
 have hl:=h.lt
 unfold Bx at *
 rw[k.block g hl (fun e=>hg (by injection e))]; exact h
def Rd (b:Nat) (n:Int) (ts:Ts) (w:World):Prop:=
 ∃ (A:Option Addr) (m c i:Nat) (ts0:Ts) (w0:World),Toks w0 (.slice A m c) ts0∧w0.heap.size≤b∧Since w0 w∧m≤10000∧i≤m∧ts=ts0.drop i∧Bx w b #[.slice A m c,.int .i64 (i:Int),.int .i64 n] 88
theorem Rd.since {b:Nat} {n:Int} {ts:Ts} {w w':World} (h:Rd b n ts w) (k:Since w w'):Rd b n ts w':=by
 obtain⟨A,m,c,i,ts0,w0,h1,h2,h3,h4,h5,h6,h7⟩:=h
 exact⟨A,m,c,i,ts0,w0,h1,h2,h3.trans k,h4,h5,h6,h7.since k⟩
theorem Rd.lt {b:Nat} {n:Int} {ts:Ts} {w:World} (h:Rd b n ts w):b<w.heap.size:=by
 obtain⟨A,m,c,i,ts0,w0,h1,h2,h3,h4,h5,h6,h7⟩:=h
 exact h7.lt
theorem Rd.other {b g i:Nat} {n:Int} {ts:Ts} {w:World} (h:Rd b n ts w) (u:Value) (hg:b<g):Rd b n ts (w.setCell ⟨g,i,none⟩ u):=by
 obtain⟨A,m,c,j,ts0,w0,h1,h2,h3,h4,h5,h6,h7⟩:=h
 exact⟨A,m,c,j,ts0,w0,h1,h2,h3.set (by show _≤g; omega) u,h4,h5,h6,h7.other (by omega) i u⟩
theorem Rd.at0 {b:Nat} {n:Int} {w:World} (h:Rd b n [] w):∃ A m c,m≤10000∧(w.cell? ⟨b,0,none⟩=some (.slice A m c)∧w.cell? ⟨b,1,none⟩=some (.int .i64 (m:Int))∧w.cell? ⟨b,2,none⟩=some (.int .i64 n)):=by
 obtain⟨A,m,c,i,ts0,w0,h1,h2,h3,h4,h5,h6,h7⟩:=h
 have e:=h1.at_
 have:=List.drop_eq_nil_iff.1 h6.symm
 obtain rfl:i=m:=by omega
 exact⟨A,i,c,h4,h7.cell 0,h7.cell 1,h7.cell 2⟩
theorem Rd.at1 {b:Nat} {n:Int} {t:Tv} {r:Ts} {w:World} (h:Rd b n (t :: r) w):∃ b' o m c i,m≤10000∧i<m∧b'≠b ∧
 (w.cell? ⟨b,0,none⟩=some (.slice (some ⟨b',o,none⟩) m c)∧w.cell? ⟨b,1,none⟩=some (.int .i64 (i:Int))∧w.cell? ⟨b,2,none⟩=some (.int .i64 n))∧Bx w b #[.slice (some ⟨b',o,none⟩) m c,.int .i64 (i:Int),.int .i64 n] 88 ∧
 Tok4 w b' (o+i*4) t∧(∀ w',Since w w'→Rd b n r (w'.setCell ⟨b,1,none⟩ (.int .i64 ((i:Int)+1)))):=by
 obtain⟨A,m,c,i,ts0,w0,h1,h2,h3,h4,h5,h6,h7⟩:=h
 have e:=h1.at_
 have hi:i<ts0.length:=by
  apply Decidable.byContradiction; intro hn
  rw[List.drop_eq_nil_of_le (by omega)] at h6; cases h6
 have hd:=List.drop_eq_getElem_cons hi
 rw[hd] at h6
 injection h6 with h8 h9
 obtain⟨b',o,rfl,hk⟩:=h1.el hi
 have eg:ts0.getD i .nil=t:=by rw[h8]; simp[List.getD,hi]
 rw[eg] at hk
 have hl:=World.block_lt_of_cell? _ _ hk.1
 simp only at hl
 refine⟨b',o,m,c,i,h4,by omega,by omega,⟨h7.cell 0,h7.cell 1,h7.cell 2⟩,h7,hk.since h3,fun w' k => ?_⟩
 refine⟨_,m,c,i+1,ts0,w0,h1,h2,(h3.trans k).set h2 _,h4,by omega,h9,?_⟩
 have:=heap_setCell_same w' b 1 _ _ (.int .i64 ((i:Int)+1)) (h7.since k)
 simpa [Bx] using this
abbrev oops (at_ er:Int):Ending:=.panicked [{ v:=.iface 118 (.agg #[.int .i64 at_,.int .i64 er]),recovered:=false }]
def Got {α:Type} (V:World→α→Value→Prop) (b:Nat) (n:Int) (x:R α) (w:World) (e:Ending) (w':World):Prop:=
 (∃ a r v,x = .ok a r∧e = .returned v∧V w' a v∧Rd b n r w'∧Only b w w')∨(∃ p er,x = .bad p er∧e=oops p er∧Only b w w')
def tok:P Tv:=fun n ts=>match ts with | [] => .bad n 6 | t :: r => .ok t r
def fit (f:Tv→Bool):P Tv:=fun n ts=>match ts with | [] => .bad n 6 | t :: r=>if f t=true then .ok t r else .bad t.a 5
abbrev tokv (t:Tv):Value:=.agg #[.int .i64 t.k,.string t.s,.int .i64 t.v,.int .i64 t.a]
theorem done_any (b:Nat) (n:Int) (ts:Ts) (w:World) (h:Rd b n ts w) :
 Calls Tryz.prog 94 #[.pointer (some ⟨b,0,none⟩)] w fun e w'=>e = .returned (.bool (decide (ts = [])))∧Since w w':=by
 cases ts with
 | nil =>
  obtain⟨A,m,c,hm,h0,h1,h2⟩:=h.at0
  go_enter Tryz.func94,Tryz.ntmps94
  go_wp2
  go_region
  all_goals
   go_wp2
   go_ret
   exact⟨rfl,Since.drew (Since.refl w)⟩
 | cons t r =>
  obtain⟨b',o,m,c,i,hm,hi,hb,⟨h0,h1,h2⟩,-,-,-⟩:=h.at1
  have hz:((i:Int) == (m:Int))=false:=by rw[beq_eq_false_iff_ne]; omega
  have e:decide (t :: r = [])=false:=by simp
  rw[e]
  go_enter Tryz.func94,Tryz.ntmps94
  go_wp2
  go_region
  all_goals
   go_wp2
   go_ret
   exact⟨rfl,Since.drew (Since.refl w)⟩
theorem place_any (b:Nat) (n:Int) (ts:Ts) (w:World) (h:Rd b n ts w) :
 Calls Tryz.prog 95 #[.pointer (some ⟨b,0,none⟩)] w fun e w'=>e = .returned (.int .i64 (place n ts))∧Since w w':=by
 have D:=lH (done_any b n ts w h)
 cases ts with
 | nil =>
  obtain⟨A,m,c,hm,h0,h1,h2⟩:=h.at0
  go_enter Tryz.func95,Tryz.ntmps95
  go_wp2_with (go_at_call 94; (with_reducible refine D.out.mono ?_); rintro e w1 ⟨rfl,hs⟩; have h2:=(hs.cell _ (World.block_lt_of_cell? _ _ h2)).trans h2)
  go_ret
  exact⟨rfl,hs⟩
 | cons t r =>
  have e:decide (t :: r = [])=false:=by simp
  rw[e] at D
  have HS:=lH h
  clear h e
  go_enter Tryz.func95,Tryz.ntmps95
  go_wp2_with (go_at_call 94; (with_reducible refine D.out.mono ?_); rintro e w1 ⟨rfl,hs⟩; obtain⟨b',o,m,c,i,hm,hi,hb,⟨h0,h1,h2⟩,-,⟨q0,q1,q2,q3⟩,-⟩:=(HS.out.since hs).at1)
  go_region
  all_goals
   go_wp2
   go_ret
   exact⟨rfl,hs.trans (Since.drew (Since.refl w1))⟩
theorem permit_yes (t:Tv) (w:World):Calls Tryz.prog 124 #[tokv t,.bool true] w fun e w'=>e = .returned (.tuple #[])∧Since w w':=by
 go_enter Tryz.func124,Tryz.ntmps124
 go_wp2
 go_end0
 exact⟨rfl,sA _ _⟩
theorem permit_no (t:Tv) (w:World):Calls Tryz.prog 124 #[tokv t,.bool false] w fun e w'=>e=oops t.a 5∧Since w w':=by
 go_enter Tryz.func124,Tryz.ntmps124
 go_wp2
 exact⟨rfl,rfl,sA _ _⟩
end Go.Proofs.YtjmmcnldfkjebaaGreatDoor.Prs
namespace Go.Proofs.YtjmmcnldfkjebaaGreatDoor.Prs
open Go.RowKit
set_option linter.unusedVariables false
set_option linter.unusedSimpArgs false
open Dig Lx Tk Ps Ti
theorem take_none (b:Nat) (n:Int) (w:World) (h:Rd b n [] w) :
 Calls Tryz.prog 123 #[.pointer (some ⟨b,0,none⟩)] w fun e w'=>e=oops n 6∧Since w w':=by
 have D:=lH (fun W (k:Since w W)=>done_any b n [] W (h.since k))
 have HS:=lH h
 clear h
 go_enter Tryz.func123,Tryz.ntmps123
 go_wp2_with (go_at_call 94; (with_reducible refine (D.out _ (sA _ _)).mono ?_); rintro e w1 ⟨rfl,hs⟩; have hs1:=(sA _ _).trans hs; obtain⟨A,m,c,hm,h0,h1,h2⟩:=(HS.out.since hs1).at0)
 exact⟨rfl,rfl,hs1⟩
theorem take_some (b:Nat) (n:Int) (t:Tv) (r:Ts) (w:World) (h:Rd b n (t :: r) w) :
 Calls Tryz.prog 123 #[.pointer (some ⟨b,0,none⟩)] w fun e w'=>e = .returned (tokv t)∧Rd b n r w'∧Only b w w':=by
 have D:=lH (fun W (k:Since w W)=>done_any b n (t :: r) W (h.since k))
 have e:decide (t :: r = [])=false:=by simp
 rw[e] at D
 have HS:=lH h
 have hlt:=h.lt
 clear h e
 go_enter Tryz.func123,Tryz.ntmps123
 go_wp2_with (go_at_call 94; (with_reducible refine (D.out _ (sA _ _)).mono ?_); rintro e w1 ⟨rfl,hs⟩; have hs1:=(sA _ _).trans hs; obtain⟨b',o,m,c,i,hm,hi,hb,⟨h0,h1,h2⟩,hf,⟨q0,q1,q2,q3⟩,hR⟩:=(HS.out.since hs1).at1)
 have HH:=lH (fun W (k:Since w1 W)=>show (W.cell? ⟨b,0,none⟩=some (.slice (some ⟨b',o,none⟩) m c)∧W.cell? ⟨b,1,none⟩=some (.int .i64 (i:Int))∧W.cell? ⟨b',o+i*4,none⟩=some (.int .i64 t.k)∧W.cell? ⟨b',o+i*4+1,none⟩=some (.string t.s)∧W.cell? ⟨b',o+i*4+2,none⟩=some (.int .i64 t.v)∧W.cell? ⟨b',o+i*4+3,none⟩=some (.int .i64 t.a)) from
  ⟨(k.cell _ (World.block_lt_of_cell? _ _ h0)).trans h0,(k.cell _ (World.block_lt_of_cell? _ _ h1)).trans h1,(k.cell _ (World.block_lt_of_cell? _ _ q0)).trans q0,(k.cell _ (World.block_lt_of_cell? _ _ q1)).trans q1,(k.cell _ (World.block_lt_of_cell? _ _ q2)).trans q2,(k.cell _ (World.block_lt_of_cell? _ _ q3)).trans q3⟩)
 go_region_held3 (fun W=>W.cell? ⟨b,0,none⟩=some (.slice (some ⟨b',o,none⟩) m c)∧W.cell? ⟨b,1,none⟩=some (.int .i64 (i:Int))∧W.cell? ⟨b',o+i*4,none⟩=some (.int .i64 t.k)∧W.cell? ⟨b',o+i*4+1,none⟩=some (.string t.s)∧W.cell? ⟨b',o+i*4+2,none⟩=some (.int .i64 t.v)∧W.cell? ⟨b',o+i*4+3,none⟩=some (.int .i64 t.a))
  (first | exact HH.out _ (Since.drew (Since.refl _)) | exact HH.out _ ((Since.drew (Since.refl _)).alloc _) | exact HH.out _ (((Since.drew (Since.refl _)).alloc _).set (Nat.le_refl _) _))
  (first | (go_at_call 124; fail))
 have hsz:=hs1.size
 have B1:Bx ((w1.alloc (.cells #[.int .i64 t.k,.string t.s,.int .i64 t.v,.int .i64 t.a] 76)).setCell ⟨b,1,none⟩ (.int .i64 ((i:Int)+1))) w1.heap.size #[.int .i64 t.k,.string t.s,.int .i64 t.v,.int .i64 t.a] 76:=(Bx.fresh _ _ _).other (by omega) _ _
 obtain⟨g0,g1,g2,g3⟩:=B1.four
 have B2:Bx ((w1.alloc (.cells #[.int .i64 t.k,.string t.s,.int .i64 t.v,.int .i64 t.a] 76)).setCell ⟨b,1,none⟩ (.int .i64 ((i:Int)+1))) w.heap.size #[.int .i64 0,.string ⟨#[]⟩,.int .i64 0,.int .i64 0] 76:=(((Bx.fresh _ _ _).since hs).since (sA _ _)).other (by omega) _ _
 obtain⟨e0,e1,e2,e3⟩:=B2.four
 obtain⟨f0,f1,f2,f3⟩:=B2.four'
 have hf2:(w1.alloc (.cells #[.int .i64 t.k,.string t.s,.int .i64 t.v,.int .i64 t.a] 76)).frozen? ⟨b,1,none⟩=false:=(hf.since (sA _ _)).no 1
 go_wp2
 have B3:Bx (put4 ((w1.alloc (.cells #[.int .i64 t.k,.string t.s,.int .i64 t.v,.int .i64 t.a] 76)).setCell ⟨b,1,none⟩ (.int .i64 ((i:Int)+1))) w.heap.size (.int .i64 t.k) (.string t.s) (.int .i64 t.v) (.int .i64 t.a)).drew w.heap.size #[.int .i64 t.k,.string t.s,.int .i64 t.v,.int .i64 t.a] 76:=(B2.put4 _ _ _ _).since (Since.drew (Since.refl _))
 obtain⟨p0,p1,p2,p3⟩:=B3.four
 unfold put4 at p0 p1 p2 p3
 have hG:=((hR _ (sA w1 (.cells #[.int .i64 t.k,.string t.s,.int .i64 t.v,.int .i64 t.a] 76))))
 refine bodyPost_ret (v:=tokv t) ?_ rfl ?_
 · simp[results,Tryz.results123,go_sem,p0,p1,p2,p3]
 · exact⟨rfl,((((hG.other _ hlt).other _ hlt).other _ hlt).other _ hlt).since (Since.drew (Since.refl _)),
    ((((((Only.of hs1).alloc _).set _).new (World.grownBy.refl _ (some w.heap.size) |> fun h=>Only.set (b:=w.heap.size) h _) (Nat.le_refl _)).new (Only.set (b:=w.heap.size) (Only.refl _ _) _) (Nat.le_refl _)).new (Only.set (b:=w.heap.size) (Only.refl _ _) _) (Nat.le_refl _)).new (Only.set (b:=w.heap.size) (Only.refl _ _) _) (Nat.le_refl _) |>.drew⟩
theorem toL (s:ByteArray):s.toList=L s:=ByteArray.toList_eq s
theorem keyword_any (s:ByteArray) (w:World):Calls Tryz.prog 174 #[.string s] w fun e w'=>e = .returned (.bool (keywords.contains (L s)))∧Since w w':=by
 obtain⟨r,hr⟩:∃ r,r=keywords.contains (L s):=⟨_,rfl⟩
 rw[← hr]
 have HR:=lH hr
 clear hr
 go_enter Tryz.func174,Tryz.ntmps174
 go_wp2
 all_goals
  go_ret
  refine⟨?_,Since.refl _⟩
  rw[HR.out,← toL]
  simp_all [keywords]
theorem isName_any (t:Tv) (w:World):Calls Tryz.prog 166 #[tokv t] w fun e w'=>e = .returned (.bool (nameB t))∧Since w w':=by
 have K:=lH (fun W=>keyword_any t.s W)
 have hn:nameB t=(decide (t.k=1) && !(keywords.contains (L t.s))):=rfl
 generalize keywords.contains (L t.s)=q at *
 have HN:=lH hn
 clear hn
 by_cases h1:t.k=1
 · have hz:(t.k == 1)=true:=by rw[beq_iff_eq]; exact h1
   go_enter Tryz.func166,Tryz.ntmps166
   go_wp2_with (go_at_call 174; (with_reducible refine (K.out _).mono ?_); rintro e w1 ⟨rfl,hs⟩)
   go_ret
   refine⟨?_,(sA _ _).trans hs⟩
   rw[HN.out,decide_eq_true h1]
   simp
 · have hz:(t.k == 1)=false:=by rw[beq_eq_false_iff_ne]; exact h1
   go_enter Tryz.func166,Tryz.ntmps166
   go_wp2
   go_ret
   refine⟨?_,sA _ _⟩
   rw[HN.out,decide_eq_false h1]
   simp
end Go.Proofs.YtjmmcnldfkjebaaGreatDoor.Prs
namespace Go.Proofs.YtjmmcnldfkjebaaGreatDoor.Prs
open Go.RowKit
set_option linter.unusedVariables false
set_option linter.unusedSimpArgs false
open Dig Lx Tk Ps Ti
theorem Rd.all {b:Nat} {n:Int} {t:Tv} {r:Ts} {w:World} (h:Rd b n (t :: r) w):∃ b' o m c i,m≤10000∧i<m ∧
 Hid (∀ W,Since w W→W.cell? ⟨b,0,none⟩=some (.slice (some ⟨b',o,none⟩) m c)∧W.cell? ⟨b,1,none⟩=some (.int .i64 (i:Int))∧W.cell? ⟨b',o+i*4,none⟩=some (.int .i64 t.k)∧W.cell? ⟨b',o+i*4+1,none⟩=some (.string t.s)∧W.cell? ⟨b',o+i*4+2,none⟩=some (.int .i64 t.v)∧W.cell? ⟨b',o+i*4+3,none⟩=some (.int .i64 t.a)) ∧
 Hid (Bx w b #[.slice (some ⟨b',o,none⟩) m c,.int .i64 (i:Int),.int .i64 n] 88)∧Hid (∀ w',Since w w'→Rd b n r (w'.setCell ⟨b,1,none⟩ (.int .i64 ((i:Int)+1)))):=by
 obtain⟨b',o,m,c,i,hm,hi,hb,⟨h0,h1,h2⟩,hf,⟨q0,q1,q2,q3⟩,hR⟩:=h.at1
 have up:∀ {W:World} {p:Addr} {u:Value},Since w W→w.cell? p=some u→W.cell? p=some u:=fun k g=>(k.cell _ (World.block_lt_of_cell? _ _ g)).trans g
 exact⟨b',o,m,c,i,hm,hi,fun W k=>⟨up k h0,up k h1,up k q0,up k q1,up k q2,up k q3⟩,hf,hR⟩
def Strs (w:World) (g:Nat) (ss:List ByteArray):Prop:=∀ k s,ss[k]?=some s→w.cell? ⟨g,k,none⟩=some (.string s)
theorem Strs.only {w w':World} {g b:Nat} {ss:List ByteArray} (h:Strs w g ss) (k:Only b w w') (hg:g≠b):Strs w' g ss:=fun i s hs=>by
 have h1:=h i s hs
 exact (World.cell?_of_block (w:=w) (k.block g (World.block_lt_of_cell? _ _ h1) (fun e=>hg (by injection e)))).trans h1
def takes:List Bs→P Unit
 | []=>ret ()
 | c :: r=>bnd (take c) fun _=>takes r
theorem takes_nil {c:Bs} {r:List Bs} {n:Int} : takes (c :: r) n [] = .bad n 6:=rfl
theorem takes_yes {c:Bs} {r:List Bs} {n:Int} {t:Tv} {ts:Ts} (h:L t.s=c):takes (c :: r) n (t :: ts)=takes r n ts:=by
 simp[takes,bnd,take,alt,isW,h,ret,R.bind]
theorem takes_no {c:Bs} {r:List Bs} {n:Int} {t:Tv} {ts:Ts} (h:L t.s≠c):takes (c :: r) n (t :: ts) = .bad t.a 5:=by
 simp[takes,bnd,take,alt,isW,h,R.bind,wrong,place]
theorem follow_any (b:Nat) (n:Int) (ts:Ts) (g m:Nat) (ss:List ByteArray) (w:World) (h:Rd b n ts w) (hs:Strs w g ss) (hg:g≠b) (hm:ss.length=m) (hm2:m≤10) :
 Calls Tryz.prog 98 #[.pointer (some ⟨b,0,none⟩),.slice (some ⟨g,0,none⟩) m m] w (Got (fun w' _ v=>v = .tuple #[]) b n (takes (ss.map L) n ts) w):=by
 have HM:=lH hm
 have HS:=lH hs
 have HR:=lH h
 clear hm hs h
 go_enter Tryz.func98,Tryz.ntmps98
 go_wp2
 go_loopw [9] (fun i wr=>∃ (k:Nat) (us:Ts),i = .int .i64 (k:Int)∧k≤m∧Hid (takes ((ss.drop k).map L) n us=takes (ss.map L) n ts)∧Hid (Rd b n us wr)∧Hid (Only b w wr)) (fun i _=>m - (intOf i).toNat)
 case atStart=>exact⟨0,ts,rfl,Nat.zero_le _,rfl,HR.out,Only.refl _ _⟩
 case round =>
  clear HR
  obtain⟨k,us,rfl,hk,HE,HR,HO⟩:=hrel
  by_cases hlt:k<m
  · have hkl:k<ss.length:=by have:=HM.out; omega
    have hd:=List.drop_eq_getElem_cons hkl
    have hc:=(HS.out.only HO.out hg) k ss[k] (by simp[hkl])
    generalize ss[k]=s at *
    have he:=HE.out
    rw[hd,List.map_cons] at he
    clear hd hkl HE
    cases us with
    | nil =>
     rw[takes_nil] at he
     have HB:=lH he.symm
     clear he
     have T:=lH (fun W (k:Since wr W)=>take_none b n W (HR.out.since k))
     go_wp2_with (go_at_call 123; (with_reducible refine (T.out _ (Since.refl _)).mono ?_); rintro e w1 ⟨rfl,hw1⟩)
     exact⟨rfl,.inr ⟨_,_,HB.out,rfl,HO.out.trans (.of hw1)⟩⟩
    | cons t r =>
     have T:=lH (fun W (k:Since wr W)=>take_some b n t r W (HR.out.since k))
     by_cases hq:L t.s=L s
     · have hz:(t.s.toList == s.toList)=true:=by rw[toL,toL,hq]; simp
       rw[takes_yes hq] at he
       have HE:=lH he
       clear he hq
       have PY:=lH (fun W=>permit_yes t W)
       go_wp2_with (first
        | (go_at_call 123; (with_reducible refine (T.out _ (Since.refl _)).mono ?_); rintro e w1 ⟨rfl,hr1,ho1⟩)
        | (go_at_call 124; (with_reducible refine (PY.out _).mono ?_); rintro e w2 ⟨rfl,hw2⟩))
       go_roundw
       case rel=>exact⟨k+1,r,by go_num,by omega,HE.out,hr1.since ((sA _ _).trans hw2),HO.out.trans (ho1.trans (.of ((sA _ _).trans hw2)))⟩
       case measure=>simp[intOf]; omega
     · have hz:(t.s.toList == s.toList)=false:=by rw[toL,toL,beq_eq_false_iff_ne]; exact hq
       rw[takes_no hq] at he
       have HB:=lH he.symm
       clear he hq
       have PN:=lH (fun W=>permit_no t W)
       go_wp2_with (first
        | (go_at_call 123; (with_reducible refine (T.out _ (Since.refl _)).mono ?_); rintro e w1 ⟨rfl,hr1,ho1⟩)
        | (go_at_call 124; (with_reducible refine (PN.out _).mono ?_); rintro e w2 ⟨rfl,hw2⟩))
       exact⟨rfl,.inr ⟨_,_,HB.out,rfl,HO.out.trans (ho1.trans (.of ((sA _ _).trans hw2)))⟩⟩
  · obtain rfl:k=m:=by omega
    have he:=HE.out
    rw[List.drop_eq_nil_of_le (by have:=HM.out; omega)] at he
    have HB:=lH (show takes (ss.map L) n ts = .ok () us from he.symm)
    clear he
    go_wp2
    go_end0
    exact .inl ⟨(),us,_,HB.out,rfl,rfl,HR.out,HO.out⟩
end Go.Proofs.YtjmmcnldfkjebaaGreatDoor.Prs
namespace Go.Proofs.YtjmmcnldfkjebaaGreatDoor.Prs
open Go.RowKit
set_option linter.unusedVariables false
set_option linter.unusedSimpArgs false
open Dig Lx Tk Ps Ti
/-! slices.Contains of texts -/
theorem index_any (g m:Nat) (ss:List ByteArray) (s:ByteArray) (w:World) (hs:Strs w g ss) (hm:ss.length=m) (hm2:m≤10) :
 Calls Tryz.prog 146 #[.slice (some ⟨g,0,none⟩) m m,.string s] w fun e w'=>(∃ i:Int,e = .returned (.int .i64 i)∧decide (0≤i)=(ss.map L).contains (L s))∧w'=w:=by
 have HM:=lH hm
 have HS:=lH hs
 clear hm hs
 go_enter Tryz.func146,Tryz.ntmps146
 go_wp2
 go_loopw [8] (fun i wr=>∃ k:Nat,i = .int .i64 (k:Int)∧k≤m∧Hid (((ss.drop k).map L).contains (L s)=(ss.map L).contains (L s))∧wr=w) (fun i _=>m - (intOf i).toNat)
 case atStart=>exact⟨0,rfl,Nat.zero_le _,rfl,rfl⟩
 case round =>
  obtain⟨k,rfl,hk,HE,rfl⟩:=hrel
  by_cases hlt:k<m
  · have hkl:k<ss.length:=by have:=HM.out; omega
    have hd:=List.drop_eq_getElem_cons hkl
    have hc:=HS.out k ss[k] (by simp[hkl])
    generalize ss[k]=u at *
    have he:=HE.out
    rw[hd,List.map_cons,List.contains_cons] at he
    clear hd hkl HE
    by_cases hq:L s=L u
    · have hz:(s.toList == u.toList)=true:=by rw[toL,toL,hq]; simp
      rw[hq,BEq.rfl,Bool.true_or] at he
      have HB:=lH he
      have HQ:=lH hq
      clear he hq
      go_wp2
      go_ret
      exact⟨⟨k,rfl,by rw[HQ.out,← HB.out]; simp⟩,rfl⟩
    · have hz:(s.toList == u.toList)=false:=by rw[toL,toL,beq_eq_false_iff_ne]; exact hq
      have hy:(L s == L u)=false:=by rw[beq_eq_false_iff_ne]; exact hq
      rw[hy,Bool.false_or] at he
      have HE:=lH he
      clear he hq hy
      go_wp2
      go_roundw
      case rel=>exact⟨k+1,by go_num,by omega,HE.out,trivial⟩
      case measure=>simp[intOf]; omega
  · obtain rfl:k=m:=by omega
    have he:=HE.out
    rw[List.drop_eq_nil_of_le (by have:=HM.out; omega)] at he
    have HB:=lH he
    clear he HE
    go_wp2
    go_ret
    exact⟨⟨-1,rfl,by rw[← HB.out]; rfl⟩,rfl⟩
theorem contains_any (g m:Nat) (ss:List ByteArray) (s:ByteArray) (w:World) (hs:Strs w g ss) (hm:ss.length=m) (hm2:m≤10) :
 Calls Tryz.prog 125 #[.slice (some ⟨g,0,none⟩) m m,.string s] w fun e w'=>e = .returned (.bool ((ss.map L).contains (L s)))∧Since w w':=by
 have I:=lH (fun W (h:W=w)=>index_any g m ss s W (h ▸ hs) hm hm2)
 clear hs hm
 obtain⟨q,hq⟩:∃ q,q=(ss.map L).contains (L s):=⟨_,rfl⟩
 rw[← hq] at I ⊢
 clear hq
 go_enter Tryz.func125,Tryz.ntmps125
 go_wp2_with (go_at_call 146; (with_reducible refine (I.out _ rfl).mono ?_); rintro e w1 ⟨⟨i,rfl,hi⟩,rfl⟩)
 go_ret
 exact⟨rfl,Since.refl _⟩
def one (cs:List Bs):P ByteArray:=fun n ts=>match ts with | [] => .bad n 6 | t :: r=>if cs.contains (L t.s)=true then .ok t.s r else .bad t.a 5
theorem one_yes {cs:List Bs} {n:Int} {t:Tv} {r:Ts} (h:cs.contains (L t.s)=true):one cs n (t :: r) = .ok t.s r:=if_pos h
theorem one_no {cs:List Bs} {n:Int} {t:Tv} {r:Ts} (h:cs.contains (L t.s)=false):one cs n (t :: r) = .bad t.a 5:=if_neg (by rw[h]; exact Bool.false_ne_true)
theorem choose_any (b:Nat) (n:Int) (ts:Ts) (g m:Nat) (ss:List ByteArray) (w:World) (h:Rd b n ts w) (hs:Strs w g ss) (hg:g≠b) (hm:ss.length=m) (hm2:m≤10) :
 Calls Tryz.prog 96 #[.pointer (some ⟨b,0,none⟩),.slice (some ⟨g,0,none⟩) m m] w (Got (fun w' s v=>v = .string s) b n (one (ss.map L) n ts) w):=by
 have HM:=lH hm
 have HS:=lH hs
 clear hm hs
 have HR:=lH h
 clear h
 cases ts with
 | nil =>
  have T:=lH (fun W (k:Since w W)=>take_none b n W (HR.out.since k))
  go_enter Tryz.func96,Tryz.ntmps96
  go_wp2_with (go_at_call 123; (with_reducible refine (T.out _ (Since.refl _)).mono ?_); rintro e w1 ⟨rfl,hw1⟩)
  exact⟨rfl,.inr ⟨_,_,rfl,rfl,.of hw1⟩⟩
 | cons t r =>
  have T:=lH (fun W (k:Since w W)=>take_some b n t r W (HR.out.since k))
  by_cases hq:(ss.map L).contains (L t.s)=true
  · rw[one_yes hq]
    have PY:=lH (fun W=>permit_yes t W)
    have HQ:=lH hq
    clear hq
    go_enter Tryz.func96,Tryz.ntmps96
    go_wp2_with (go_at_call 123; (with_reducible refine (T.out _ (Since.refl _)).mono ?_); rintro e w1 ⟨rfl,hr1,ho1⟩)
    obtain⟨W1,hW1⟩:∃ W1,W1=w1.alloc (.cells #[.int .i64 t.k,.string t.s,.int .i64 t.v,.int .i64 t.a] 76):=⟨_,rfl⟩
    rw[← hW1]
    have hs1:Since w1 W1:=by rw[hW1]; exact sA _ _
    have HX:=lH (fun W (k:Since W1 W)=>show Bx W w1.heap.size #[.int .i64 t.k,.string t.s,.int .i64 t.v,.int .i64 t.a] 76 from Bx.since (by rw[hW1]; exact Bx.fresh _ _ _) k)
    clear hW1
    have CT:=lH (fun W (k:Since W1 W)=>contains_any g m ss t.s W ((HS.out.only ho1 hg).only (.of (b:=b) (hs1.trans k)) hg) HM.out hm2)
    rw[HQ.out] at CT
    have hr0:Since W1 W1.drew:=Since.drew (Since.refl W1)
    refine Reg.wp_region_G (S:=fun _=>True) (fun j => [].contains j) (by kernel_rfl) trivial ?_
    refine' Reg.tk (i:=0) (oi:=⟨some 8,.load 76 (.tmp 5),76,"reader.go:64",#[],none⟩) (v:=_) [5] [] (Or.inl ⟨by rfl,Or.inl ?hy2⟩) ?r_2
    case hy2=>(intro w' kk ss; obtain⟨q0,q1,q2,q3⟩:=(HX.out _ (hr0.trans kk)).four; go_simp; first | done | with_reducible rfl)
    try simp only[Act.put,Reg.l1,Reg.l2,Reg.l3]
    refine' Reg.tk (i:=1) (oi:=⟨some 9,.move (.tmp 1),67,"reader.go:64",#[],none⟩) (v:=_) [4,5] [] (Or.inl ⟨by rfl,Or.inl ?hy3⟩) ?r_3
    case hy3=>(intro w' kk ss; obtain⟨q0,q1,q2,q3⟩:=(HX.out _ (hr0.trans kk)).four; go_simp; first | done | with_reducible rfl)
    try simp only[Act.put,Reg.l1,Reg.l2,Reg.l3]
    refine' Reg.tk (i:=2) (oi:=⟨some 10,.fieldAddr 76 (.tmp 5) 1,0,"reader.go:64",#[],none⟩) (v:=_) [3,4,5] [] (Or.inl ⟨by rfl,Or.inl ?hy4⟩) ?r_4
    case hy4=>(intro w' kk ss; obtain⟨q0,q1,q2,q3⟩:=(HX.out _ (hr0.trans kk)).four; go_simp; first | done | with_reducible rfl)
    try simp only[Act.put,Reg.l1,Reg.l2,Reg.l3]
    refine' Reg.tk (i:=3) (oi:=⟨some 11,.load 9 (.tmp 10),9,"reader.go:64",#[⟨2,.data⟩],none⟩) (v:=_) [4,5] [] (Or.inl ⟨by rfl,Or.inl ?hy5⟩) ?r_5
    case hy5=>(intro w' kk ss; obtain⟨q0,q1,q2,q3⟩:=(HX.out _ (hr0.trans kk)).four; go_simp; first | done | with_reducible rfl)
    try simp only[Act.put,Reg.l1,Reg.l2,Reg.l3]
    refine Reg.tk (i:=4) (oi:=⟨some 12,.call { callee:=.value (.func 125),args:=#[.tmp 9,.tmp 11],argTypes:=#[67,9] },4,"reader.go:64",#[⟨1,.data⟩,⟨3,.data⟩],none⟩) (v:=.bool true) [5] [] (Or.inl ⟨by rfl,Or.inr ⟨125,#[.slice (some ⟨g,0,none⟩) m m,.string t.s],fun w' kk ss=>⟨?_,?_⟩⟩⟩) ?_
    · (try dsimp only at ss); go_simp
    · exact (CT.out w' (hr0.trans kk)).mono fun e w'' h=>⟨h.1,h.2,trivial⟩
    try simp only[Act.put,Reg.l1,Reg.l2,Reg.l3]
    refine Reg.wpG_ready (rs:=[5]) (by kernel_rfl) (by simp) (fun wq1001 k1001' sq1001 => ?_)
    have hr0:=hr0.trans k1001'
    refine Reg.AllG.first (o:=⟨some 13,.call ⟨.value (.func 124),#[.tmp 8,.tmp 12],#[76,4]⟩,0,"reader.go:64",#[⟨0,.data⟩,⟨4,.data⟩,⟨4,.chain⟩],none⟩) rfl (by rfl) (fun K hK=>?_) Reg.AllG.nil
    go_simp
    (with_reducible refine (PY.out wq1001).mono ?_)
    rintro e y1001 ⟨rfl,hx⟩
    refine hK.out _ _ trivial hx ?_
    clear hK K
    have hr0:=hr0.trans hx
    clear hx
    try simp only[Act.put,Reg.l1,Reg.l2,Reg.l3]
    refine Reg.wpG_done (by kernel_rfl) (fun we ke se => ?_) _
    have hr0:=hr0.trans ke
    clear ke
    obtain⟨q0,q1,q2,q3⟩:=(HX.out _ hr0).four
    go_wp2
    go_ret
    exact .inl ⟨_,r,_,rfl,rfl,rfl,hr1.since (hs1.trans hr0),ho1.trans (.of (hs1.trans hr0))⟩
  · have hq:(ss.map L).contains (L t.s)=false:=by simpa using hq
    rw[one_no hq]
    have PN:=lH (fun W=>permit_no t W)
    have HQ:=lH hq
    clear hq
    go_enter Tryz.func96,Tryz.ntmps96
    go_wp2_with (go_at_call 123; (with_reducible refine (T.out _ (Since.refl _)).mono ?_); rintro e w1 ⟨rfl,hr1,ho1⟩)
    obtain⟨W1,hW1⟩:∃ W1,W1=w1.alloc (.cells #[.int .i64 t.k,.string t.s,.int .i64 t.v,.int .i64 t.a] 76):=⟨_,rfl⟩
    rw[← hW1]
    have hs1:Since w1 W1:=by rw[hW1]; exact sA _ _
    have HX:=lH (fun W (k:Since W1 W)=>show Bx W w1.heap.size #[.int .i64 t.k,.string t.s,.int .i64 t.v,.int .i64 t.a] 76 from Bx.since (by rw[hW1]; exact Bx.fresh _ _ _) k)
    clear hW1
    have CT:=lH (fun W (k:Since W1 W)=>contains_any g m ss t.s W ((HS.out.only ho1 hg).only (.of (b:=b) (hs1.trans k)) hg) HM.out hm2)
    rw[HQ.out] at CT
    have hr0:Since W1 W1.drew:=Since.drew (Since.refl W1)
    refine Reg.wp_region_G (S:=fun _=>True) (fun j => [].contains j) (by kernel_rfl) trivial ?_
    refine' Reg.tk (i:=0) (oi:=⟨some 8,.load 76 (.tmp 5),76,"reader.go:64",#[],none⟩) (v:=_) [5] [] (Or.inl ⟨by rfl,Or.inl ?hy7⟩) ?r_7
    case hy7=>(intro w' kk ss; obtain⟨q0,q1,q2,q3⟩:=(HX.out _ (hr0.trans kk)).four; go_simp; first | done | with_reducible rfl)
    try simp only[Act.put,Reg.l1,Reg.l2,Reg.l3]
    refine' Reg.tk (i:=1) (oi:=⟨some 9,.move (.tmp 1),67,"reader.go:64",#[],none⟩) (v:=_) [4,5] [] (Or.inl ⟨by rfl,Or.inl ?hy8⟩) ?r_8
    case hy8=>(intro w' kk ss; obtain⟨q0,q1,q2,q3⟩:=(HX.out _ (hr0.trans kk)).four; go_simp; first | done | with_reducible rfl)
    try simp only[Act.put,Reg.l1,Reg.l2,Reg.l3]
    refine' Reg.tk (i:=2) (oi:=⟨some 10,.fieldAddr 76 (.tmp 5) 1,0,"reader.go:64",#[],none⟩) (v:=_) [3,4,5] [] (Or.inl ⟨by rfl,Or.inl ?hy9⟩) ?r_9
    case hy9=>(intro w' kk ss; obtain⟨q0,q1,q2,q3⟩:=(HX.out _ (hr0.trans kk)).four; go_simp; first | done | with_reducible rfl)
    try simp only[Act.put,Reg.l1,Reg.l2,Reg.l3]
    refine' Reg.tk (i:=3) (oi:=⟨some 11,.load 9 (.tmp 10),9,"reader.go:64",#[⟨2,.data⟩],none⟩) (v:=_) [4,5] [] (Or.inl ⟨by rfl,Or.inl ?hy10⟩) ?r_10
    case hy10=>(intro w' kk ss; obtain⟨q0,q1,q2,q3⟩:=(HX.out _ (hr0.trans kk)).four; go_simp; first | done | with_reducible rfl)
    try simp only[Act.put,Reg.l1,Reg.l2,Reg.l3]
    refine Reg.tk (i:=4) (oi:=⟨some 12,.call { callee:=.value (.func 125),args:=#[.tmp 9,.tmp 11],argTypes:=#[67,9] },4,"reader.go:64",#[⟨1,.data⟩,⟨3,.data⟩],none⟩) (v:=.bool false) [5] [] (Or.inl ⟨by rfl,Or.inr ⟨125,#[.slice (some ⟨g,0,none⟩) m m,.string t.s],fun w' kk ss=>⟨?_,?_⟩⟩⟩) ?_
    · (try dsimp only at ss); go_simp
    · exact (CT.out w' (hr0.trans kk)).mono fun e w'' h=>⟨h.1,h.2,trivial⟩
    try simp only[Act.put,Reg.l1,Reg.l2,Reg.l3]
    refine Reg.wpG_ready (rs:=[5]) (by kernel_rfl) (by simp) (fun wq6001 k6001' sq6001 => ?_)
    have hr0:=hr0.trans k6001'
    refine Reg.AllG.first (o:=⟨some 13,.call ⟨.value (.func 124),#[.tmp 8,.tmp 12],#[76,4]⟩,0,"reader.go:64",#[⟨0,.data⟩,⟨4,.data⟩,⟨4,.chain⟩],none⟩) rfl (by rfl) (fun K hK=>?_) Reg.AllG.nil
    go_simp
    (with_reducible refine (PN.out wq6001).mono ?_)
    rintro e y6001 ⟨rfl,hx⟩
    exact⟨rfl,.inr ⟨_,_,rfl,rfl,ho1.trans (.of (hs1.trans (hr0.trans hx)))⟩⟩
theorem name_yes {n:Int} {t:Tv} {r:Ts} (h:nameB t=true):name n (t :: r) = .ok t.s r:=if_pos h
theorem name_no {n:Int} {t:Tv} {r:Ts} (h:nameB t=false):name n (t :: r) = .bad t.a 5:=if_neg (by rw[h]; exact Bool.false_ne_true)
theorem name_any (b:Nat) (n:Int) (ts:Ts) (w:World) (h:Rd b n ts w) :
 Calls Tryz.prog 149 #[.pointer (some ⟨b,0,none⟩)] w (Got (fun w' s v=>v = .string s) b n (name n ts) w):=by
 have HR:=lH h
 clear h
 cases ts with
 | nil =>
  have T:=lH (fun W (k:Since w W)=>take_none b n W (HR.out.since k))
  go_enter Tryz.func149,Tryz.ntmps149
  go_wp2_with (go_at_call 123; (with_reducible refine (T.out _ (Since.refl _)).mono ?_); rintro e w1 ⟨rfl,hw1⟩)
  exact⟨rfl,.inr ⟨_,_,rfl,rfl,.of hw1⟩⟩
 | cons t r =>
  have T:=lH (fun W (k:Since w W)=>take_some b n t r W (HR.out.since k))
  by_cases hq:nameB t=true
  · rw[name_yes hq]
    have PY:=lH (fun W=>permit_yes t W)
    have HQ:=lH hq
    clear hq
    go_enter Tryz.func149,Tryz.ntmps149
    go_wp2_with (go_at_call 123; (with_reducible refine (T.out _ (Since.refl _)).mono ?_); rintro e w1 ⟨rfl,hr1,ho1⟩)
    obtain⟨W1,hW1⟩:∃ W1,W1=w1.alloc (.cells #[.int .i64 t.k,.string t.s,.int .i64 t.v,.int .i64 t.a] 76):=⟨_,rfl⟩
    rw[← hW1]
    have hs1:Since w1 W1:=by rw[hW1]; exact sA _ _
    have HX:=lH (fun W (k:Since W1 W)=>show Bx W w1.heap.size #[.int .i64 t.k,.string t.s,.int .i64 t.v,.int .i64 t.a] 76 from Bx.since (by rw[hW1]; exact Bx.fresh _ _ _) k)
    clear hW1
    have CT:=lH (fun W=>isName_any t W)
    rw[HQ.out] at CT
    have hr0:Since W1 W1.drew:=Since.drew (Since.refl W1)
    refine Reg.wp_region_G (S:=fun _=>True) (fun j => [].contains j) (by kernel_rfl) trivial ?_
    refine' Reg.tk (i:=0) (oi:=⟨some 6,.load 76 (.tmp 3),76,"reader.go:80",#[],none⟩) (v:=_) [3] [] (Or.inl ⟨by rfl,Or.inl ?hy12⟩) ?r_12
    case hy12=>(intro w' kk ss; obtain⟨q0,q1,q2,q3⟩:=(HX.out _ (hr0.trans kk)).four; go_simp; first | done | with_reducible rfl)
    try simp only[Act.put,Reg.l1,Reg.l2,Reg.l3]
    refine' Reg.tk (i:=1) (oi:=⟨some 7,.load 76 (.tmp 3),76,"reader.go:80",#[],none⟩) (v:=_) [2,3] [] (Or.inl ⟨by rfl,Or.inl ?hy13⟩) ?r_13
    case hy13=>(intro w' kk ss; obtain⟨q0,q1,q2,q3⟩:=(HX.out _ (hr0.trans kk)).four; go_simp; first | done | with_reducible rfl)
    try simp only[Act.put,Reg.l1,Reg.l2,Reg.l3]
    refine Reg.tk (i:=2) (oi:=⟨some 8,.call ⟨.value (.func 166),#[.tmp 7],#[76]⟩,4,"reader.go:80",#[⟨1,.data⟩],none⟩) (v:=.bool true) [3] [] (Or.inl ⟨by rfl,Or.inr ⟨166,#[tokv t],fun w' kk ss=>⟨?_,?_⟩⟩⟩) ?_
    · (try dsimp only at ss); go_simp
    · exact (CT.out w').mono fun e w'' h=>⟨h.1,h.2,trivial⟩
    try simp only[Act.put,Reg.l1,Reg.l2,Reg.l3]
    refine Reg.wpG_ready (rs:=[3]) (by kernel_rfl) (by simp) (fun wq11001 k11001' sq11001 => ?_)
    have hr0:=hr0.trans k11001'
    refine Reg.AllG.first (o:=⟨some 9,.call ⟨.value (.func 124),#[.tmp 6,.tmp 8],#[76,4]⟩,0,"reader.go:80",#[⟨0,.data⟩,⟨2,.data⟩,⟨2,.chain⟩],none⟩) rfl (by rfl) (fun K hK=>?_) Reg.AllG.nil
    go_simp
    (with_reducible refine (PY.out wq11001).mono ?_)
    rintro e y11001 ⟨rfl,hx⟩
    refine hK.out _ _ trivial hx ?_
    clear hK K
    have hr0:=hr0.trans hx
    clear hx
    try simp only[Act.put,Reg.l1,Reg.l2,Reg.l3]
    refine Reg.wpG_done (by kernel_rfl) (fun we ke se => ?_) _
    have hr0:=hr0.trans ke
    clear ke
    obtain⟨q0,q1,q2,q3⟩:=(HX.out _ hr0).four
    go_wp2
    go_ret
    exact .inl ⟨_,r,_,rfl,rfl,rfl,hr1.since (hs1.trans hr0),ho1.trans (.of (hs1.trans hr0))⟩
  · have hq:nameB t=false:=by simpa using hq
    rw[name_no hq]
    have PN:=lH (fun W=>permit_no t W)
    have HQ:=lH hq
    clear hq
    go_enter Tryz.func149,Tryz.ntmps149
    go_wp2_with (go_at_call 123; (with_reducible refine (T.out _ (Since.refl _)).mono ?_); rintro e w1 ⟨rfl,hr1,ho1⟩)
    obtain⟨W1,hW1⟩:∃ W1,W1=w1.alloc (.cells #[.int .i64 t.k,.string t.s,.int .i64 t.v,.int .i64 t.a] 76):=⟨_,rfl⟩
    rw[← hW1]
    have hs1:Since w1 W1:=by rw[hW1]; exact sA _ _
    have HX:=lH (fun W (k:Since W1 W)=>show Bx W w1.heap.size #[.int .i64 t.k,.string t.s,.int .i64 t.v,.int .i64 t.a] 76 from Bx.since (by rw[hW1]; exact Bx.fresh _ _ _) k)
    clear hW1
    have CT:=lH (fun W=>isName_any t W)
    rw[HQ.out] at CT
    have hr0:Since W1 W1.drew:=Since.drew (Since.refl W1)
    refine Reg.wp_region_G (S:=fun _=>True) (fun j => [].contains j) (by kernel_rfl) trivial ?_
    refine' Reg.tk (i:=0) (oi:=⟨some 6,.load 76 (.tmp 3),76,"reader.go:80",#[],none⟩) (v:=_) [3] [] (Or.inl ⟨by rfl,Or.inl ?hy15⟩) ?r_15
    case hy15=>(intro w' kk ss; obtain⟨q0,q1,q2,q3⟩:=(HX.out _ (hr0.trans kk)).four; go_simp; first | done | with_reducible rfl)
    try simp only[Act.put,Reg.l1,Reg.l2,Reg.l3]
    refine' Reg.tk (i:=1) (oi:=⟨some 7,.load 76 (.tmp 3),76,"reader.go:80",#[],none⟩) (v:=_) [2,3] [] (Or.inl ⟨by rfl,Or.inl ?hy16⟩) ?r_16
    case hy16=>(intro w' kk ss; obtain⟨q0,q1,q2,q3⟩:=(HX.out _ (hr0.trans kk)).four; go_simp; first | done | with_reducible rfl)
    try simp only[Act.put,Reg.l1,Reg.l2,Reg.l3]
    refine Reg.tk (i:=2) (oi:=⟨some 8,.call ⟨.value (.func 166),#[.tmp 7],#[76]⟩,4,"reader.go:80",#[⟨1,.data⟩],none⟩) (v:=.bool false) [3] [] (Or.inl ⟨by rfl,Or.inr ⟨166,#[tokv t],fun w' kk ss=>⟨?_,?_⟩⟩⟩) ?_
    · (try dsimp only at ss); go_simp
    · exact (CT.out w').mono fun e w'' h=>⟨h.1,h.2,trivial⟩
    try simp only[Act.put,Reg.l1,Reg.l2,Reg.l3]
    refine Reg.wpG_ready (rs:=[3]) (by kernel_rfl) (by simp) (fun wq14001 k14001' sq14001 => ?_)
    have hr0:=hr0.trans k14001'
    refine Reg.AllG.first (o:=⟨some 9,.call ⟨.value (.func 124),#[.tmp 6,.tmp 8],#[76,4]⟩,0,"reader.go:80",#[⟨0,.data⟩,⟨2,.data⟩,⟨2,.chain⟩],none⟩) rfl (by rfl) (fun K hK=>?_) Reg.AllG.nil
    go_simp
    (with_reducible refine (PN.out wq14001).mono ?_)
    rintro e y14001 ⟨rfl,hx⟩
    exact⟨rfl,.inr ⟨_,_,rfl,rfl,ho1.trans (.of (hs1.trans (hr0.trans hx)))⟩⟩
theorem number_yes {n:Int} {t:Tv} {r:Ts} (h:t.k=2):integer n (t :: r) = .ok t.v r:=if_pos h
theorem number_no {n:Int} {t:Tv} {r:Ts} (h:¬ t.k=2):integer n (t :: r) = .bad t.a 5:=if_neg h
theorem exact_yes {n m:Int} {t:Tv} {r:Ts} (h:t.k=2∧t.v=m):exact m n (t :: r) = .ok () r:=if_pos h
theorem exact_no {n m:Int} {t:Tv} {r:Ts} (h:¬ (t.k=2∧t.v=m)):exact m n (t :: r) = .bad t.a 5:=if_neg h
theorem number_any (b:Nat) (n:Int) (ts:Ts) (w:World) (h:Rd b n ts w) :
 Calls Tryz.prog 165 #[.pointer (some ⟨b,0,none⟩)] w (Got (fun w' i v=>v = .int .i64 i) b n (integer n ts) w):=by
 have HR:=lH h
 clear h
 cases ts with
 | nil =>
  have T:=lH (fun W (k:Since w W)=>take_none b n W (HR.out.since k))
  go_enter Tryz.func165,Tryz.ntmps165
  go_wp2_with (go_at_call 123; (with_reducible refine (T.out _ (Since.refl _)).mono ?_); rintro e w1 ⟨rfl,hw1⟩)
  exact⟨rfl,.inr ⟨_,_,rfl,rfl,.of hw1⟩⟩
 | cons t r =>
  have T:=lH (fun W (k:Since w W)=>take_some b n t r W (HR.out.since k))
  by_cases hq:t.k=2
  · rw[number_yes hq]
    have hz:(t.k == 2)=true:=by rw[beq_iff_eq]; exact hq
    clear hq
    have PM:=lH (fun W=>permit_yes t W)
    go_enter Tryz.func165,Tryz.ntmps165
    go_wp2_with (first
     | (go_at_call 123; (with_reducible refine (T.out _ (Since.refl _)).mono ?_); rintro e w1 ⟨rfl,hr1,ho1⟩; obtain⟨q0,q1,q2,q3⟩:=(Bx.fresh w1 #[.int .i64 t.k,.string t.s,.int .i64 t.v,.int .i64 t.a] 76).four)
     | (go_at_call 124; (with_reducible refine (PM.out _).mono ?_); rintro e w2 ⟨rfl,hw2⟩; have hx:=(sA _ _).trans hw2; obtain⟨q0,q1,q2,q3⟩:=((Bx.fresh w1 #[.int .i64 t.k,.string t.s,.int .i64 t.v,.int .i64 t.a] 76).since hw2).four))
    go_ret
    exact .inl ⟨_,r,_,rfl,rfl,rfl,hr1.since hx,ho1.trans (.of hx)⟩
  · rw[number_no hq]
    have hz:(t.k == 2)=false:=by rw[beq_eq_false_iff_ne]; exact hq
    clear hq
    have PM:=lH (fun W=>permit_no t W)
    go_enter Tryz.func165,Tryz.ntmps165
    go_wp2_with (first
     | (go_at_call 123; (with_reducible refine (T.out _ (Since.refl _)).mono ?_); rintro e w1 ⟨rfl,hr1,ho1⟩; obtain⟨q0,q1,q2,q3⟩:=(Bx.fresh w1 #[.int .i64 t.k,.string t.s,.int .i64 t.v,.int .i64 t.a] 76).four)
     | (go_at_call 124; (with_reducible refine (PM.out _).mono ?_); rintro e w2 ⟨rfl,hw2⟩; have hx:=(sA _ _).trans hw2; obtain⟨q0,q1,q2,q3⟩:=((Bx.fresh w1 #[.int .i64 t.k,.string t.s,.int .i64 t.v,.int .i64 t.a] 76).since hw2).four))
    exact⟨rfl,.inr ⟨_,_,rfl,rfl,ho1.trans (.of hx)⟩⟩
theorem exactly_any (b:Nat) (n m:Int) (ts:Ts) (w:World) (h:Rd b n ts w) :
 Calls Tryz.prog 167 #[.pointer (some ⟨b,0,none⟩),.int .i64 m] w (Got (fun w' _ v=>v = .tuple #[]) b n (exact m n ts) w):=by
 have HR:=lH h
 clear h
 cases ts with
 | nil =>
  have T:=lH (fun W (k:Since w W)=>take_none b n W (HR.out.since k))
  go_enter Tryz.func167,Tryz.ntmps167
  go_wp2_with (go_at_call 123; (with_reducible refine (T.out _ (Since.refl _)).mono ?_); rintro e w1 ⟨rfl,hw1⟩)
  exact⟨rfl,.inr ⟨_,_,rfl,rfl,.of hw1⟩⟩
 | cons t r =>
  have T:=lH (fun W (k:Since w W)=>take_some b n t r W (HR.out.since k))
  by_cases hq:t.k=2
  · by_cases hp:t.v=m
    · rw[exact_yes ⟨hq,hp⟩]
      have hz:(t.k == 2)=true:=by rw[beq_iff_eq]; exact hq
      have hy:(t.v == m)=true:=by rw[beq_iff_eq]; exact hp
      clear hq hp
      have PM:=lH (fun W=>permit_yes t W)
      go_enter Tryz.func167,Tryz.ntmps167
      go_wp2_with (first
       | (go_at_call 123; (with_reducible refine (T.out _ (Since.refl _)).mono ?_); rintro e w1 ⟨rfl,hr1,ho1⟩; obtain⟨q0,q1,q2,q3⟩:=(Bx.fresh w1 #[.int .i64 t.k,.string t.s,.int .i64 t.v,.int .i64 t.a] 76).four)
       | (go_at_call 124; (with_reducible refine (PM.out _).mono ?_); rintro e w2 ⟨rfl,hw2⟩; have hx:=(sA _ _).trans hw2; obtain⟨q0,q1,q2,q3⟩:=((Bx.fresh w1 #[.int .i64 t.k,.string t.s,.int .i64 t.v,.int .i64 t.a] 76).since hw2).four))
      go_end0
      exact .inl ⟨_,r,_,rfl,rfl,rfl,hr1.since hx,ho1.trans (.of hx)⟩
    · rw[exact_no (fun h=>hp h.2)]
      have hz:(t.k == 2)=true:=by rw[beq_iff_eq]; exact hq
      have hy:(t.v == m)=false:=by rw[beq_eq_false_iff_ne]; exact hp
      clear hq hp
      have PM:=lH (fun W=>permit_no t W)
      go_enter Tryz.func167,Tryz.ntmps167
      go_wp2_with (first
       | (go_at_call 123; (with_reducible refine (T.out _ (Since.refl _)).mono ?_); rintro e w1 ⟨rfl,hr1,ho1⟩; obtain⟨q0,q1,q2,q3⟩:=(Bx.fresh w1 #[.int .i64 t.k,.string t.s,.int .i64 t.v,.int .i64 t.a] 76).four)
       | (go_at_call 124; (with_reducible refine (PM.out _).mono ?_); rintro e w2 ⟨rfl,hw2⟩; have hx:=(sA _ _).trans hw2; obtain⟨q0,q1,q2,q3⟩:=((Bx.fresh w1 #[.int .i64 t.k,.string t.s,.int .i64 t.v,.int .i64 t.a] 76).since hw2).four))
      exact⟨rfl,.inr ⟨_,_,rfl,rfl,ho1.trans (.of hx)⟩⟩
  · rw[exact_no (fun h=>hq h.1)]
    have hz:(t.k == 2)=false:=by rw[beq_eq_false_iff_ne]; exact hq
    clear hq
    have PM:=lH (fun W=>permit_no t W)
    go_enter Tryz.func167,Tryz.ntmps167
    go_wp2_with (first
     | (go_at_call 123; (with_reducible refine (T.out _ (Since.refl _)).mono ?_); rintro e w1 ⟨rfl,hr1,ho1⟩; obtain⟨q0,q1,q2,q3⟩:=(Bx.fresh w1 #[.int .i64 t.k,.string t.s,.int .i64 t.v,.int .i64 t.a] 76).four)
     | (go_at_call 124; (with_reducible refine (PM.out _).mono ?_); rintro e w2 ⟨rfl,hw2⟩; have hx:=(sA _ _).trans hw2; obtain⟨q0,q1,q2,q3⟩:=((Bx.fresh w1 #[.int .i64 t.k,.string t.s,.int .i64 t.v,.int .i64 t.a] 76).since hw2).four))
    exact⟨rfl,.inr ⟨_,_,rfl,rfl,ho1.trans (.of hx)⟩⟩
end Go.Proofs.YtjmmcnldfkjebaaGreatDoor.Prs
namespace Go.Proofs.YtjmmcnldfkjebaaGreatDoor.Prs
open Go.RowKit
set_option linter.unusedVariables false
set_option linter.unusedSimpArgs false
open Dig Lx Tk Ps Ti
def skp (c:Bs):P Bool:=alt c (ret true) (ret false)
theorem skp_yes {c:Bs} {n:Int} {t:Tv} {r:Ts} (h:L t.s=c):skp c n (t :: r) = .ok true r:=by simp[skp,alt,isW,h,ret]
theorem skp_no {c:Bs} {n:Int} {t:Tv} {r:Ts} (h:¬ L t.s=c):skp c n (t :: r) = .ok false (t :: r):=by simp[skp,alt,isW,h,ret]
theorem skip_any (b:Nat) (n:Int) (ts:Ts) (s:ByteArray) (w:World) (h:Rd b n ts w) :
 Calls Tryz.prog 147 #[.pointer (some ⟨b,0,none⟩),.string s] w (Got (fun w' x v=>v = .bool x) b n (skp (L s) n ts) w):=by
 have HR:=lH h
 have D:=lH (fun W (k:Since w W)=>done_any b n ts W (h.since k))
 clear h
 cases ts with
 | nil =>
  rw[decide_eq_true rfl] at D
  go_enter Tryz.func147,Tryz.ntmps147
  go_wp2
  have hr0:Since w w.drew:=Since.drew (Since.refl w)
  refine Reg.wp_region_G (S:=fun _=>True) (fun j => [].contains j) (by kernel_rfl) trivial ?_
  refine' Reg.tk (i:=0) (oi:=⟨some 5,.move (.tmp 0),116,"reader.go:70",#[],none⟩) (v:=_) [1,2,3,4,5,6,7,8,9,10,11,12,13,14,15,16] [] (Or.inl ⟨by rfl,Or.inl ?hy2⟩) ?r_2
  case hy2=>(intro w' kk ss; skip; go_simp; first | done | with_reducible rfl)
  try simp only[Act.put,Reg.l1,Reg.l2,Reg.l3]
  refine Reg.tk (i:=1) (oi:=⟨some 6,.call ⟨.value (.func 94),#[.tmp 5],#[116]⟩,4,"reader.go:70",#[⟨0,.data⟩],none⟩) (v:=.bool true) [2,3,4,5,6,7,8,9,10,11,12,13,14,15,16] [] (Or.inl ⟨by rfl,Or.inr ⟨94,#[.pointer (some ⟨b,0,none⟩)],fun w' kk ss=>⟨?_,?_⟩⟩⟩) ?_
  · (try dsimp only at ss); go_simp
  · exact (D.out w' (hr0.trans kk)).mono fun e w'' h=>⟨h.1,h.2,trivial⟩
  try simp only[Act.put,Reg.l1,Reg.l2,Reg.l3]
  refine' Reg.tk (i:=2) (oi:=⟨some 7,.move (.tmp 6),4,"reader.go:70",#[⟨1,.data⟩,⟨1,.chain⟩],none⟩) (v:=_) [3,4,5,6,7,8,9,10,11,12,13,14,15,16] [] (Or.inl ⟨by rfl,Or.inl ?hy3⟩) ?r_3
  case hy3=>(intro w' kk ss; skip; go_simp; first | done | with_reducible rfl)
  try simp only[Act.put,Reg.l1,Reg.l2,Reg.l3]
  refine Reg.tk (i:=3) (oi:=⟨some 8,.move (.tmp 0),116,"reader.go:70",#[⟨2,.guard⟩],some (2,false)⟩) (v:=undef) [4,5,6,11,12,13,15,16] [] (Or.inr ⟨by rfl,rfl⟩) ?_
  try simp only[Act.put,Reg.l1,Reg.l2,Reg.l3]
  refine Reg.tk (i:=4) (oi:=⟨some 9,.nilCheck (.tmp 8),0,"reader.go:70",#[⟨3,.data⟩,⟨2,.guard⟩],some (2,false)⟩) (v:=undef) [5,6,11,12,13,15,16] [] (Or.inr ⟨by rfl,rfl⟩) ?_
  try simp only[Act.put,Reg.l1,Reg.l2,Reg.l3]
  refine Reg.tk (i:=5) (oi:=⟨some 10,.fieldAddr 88 (.tmp 9) 0,0,"reader.go:70",#[⟨4,.data⟩,⟨2,.guard⟩],some (2,false)⟩) (v:=undef) [6,11,12,13,15,16] [] (Or.inr ⟨by rfl,rfl⟩) ?_
  try simp only[Act.put,Reg.l1,Reg.l2,Reg.l3]
  refine Reg.tk (i:=6) (oi:=⟨some 11,.load 54 (.tmp 10),54,"reader.go:70",#[⟨5,.data⟩,⟨2,.guard⟩],some (2,false)⟩) (v:=undef) [11,12,13,15,16] [] (Or.inr ⟨by rfl,rfl⟩) ?_
  try simp only[Act.put,Reg.l1,Reg.l2,Reg.l3]
  refine Reg.tk (i:=7) (oi:=⟨some 12,.move (.tmp 0),116,"reader.go:70",#[⟨2,.guard⟩],some (2,false)⟩) (v:=undef) [8,9,10,11,12,13,15,16] [] (Or.inr ⟨by rfl,rfl⟩) ?_
  try simp only[Act.put,Reg.l1,Reg.l2,Reg.l3]
  refine Reg.tk (i:=8) (oi:=⟨some 13,.nilCheck (.tmp 12),0,"reader.go:70",#[⟨7,.data⟩,⟨2,.guard⟩],some (2,false)⟩) (v:=undef) [9,10,11,12,13,15,16] [] (Or.inr ⟨by rfl,rfl⟩) ?_
  try simp only[Act.put,Reg.l1,Reg.l2,Reg.l3]
  refine Reg.tk (i:=9) (oi:=⟨some 14,.fieldAddr 88 (.tmp 13) 1,0,"reader.go:70",#[⟨8,.data⟩,⟨2,.guard⟩],some (2,false)⟩) (v:=undef) [10,11,12,13,15,16] [] (Or.inr ⟨by rfl,rfl⟩) ?_
  try simp only[Act.put,Reg.l1,Reg.l2,Reg.l3]
  refine Reg.tk (i:=10) (oi:=⟨some 15,.load 3 (.tmp 14),3,"reader.go:70",#[⟨9,.data⟩,⟨2,.guard⟩],some (2,false)⟩) (v:=undef) [11,12,13,15,16] [] (Or.inr ⟨by rfl,rfl⟩) ?_
  try simp only[Act.put,Reg.l1,Reg.l2,Reg.l3]
  refine Reg.tk (i:=11) (oi:=⟨some 16,.indexAddr 54 (.tmp 11) (.tmp 15),0,"reader.go:70",#[⟨6,.data⟩,⟨10,.data⟩,⟨2,.guard⟩],some (2,false)⟩) (v:=undef) [12,13,15,16] [] (Or.inr ⟨by rfl,rfl⟩) ?_
  try simp only[Act.put,Reg.l1,Reg.l2,Reg.l3]
  refine Reg.tk (i:=12) (oi:=⟨some 17,.fieldAddr 76 (.tmp 16) 1,0,"reader.go:70",#[⟨11,.data⟩,⟨2,.guard⟩],some (2,false)⟩) (v:=undef) [13,15,16] [] (Or.inr ⟨by rfl,rfl⟩) ?_
  try simp only[Act.put,Reg.l1,Reg.l2,Reg.l3]
  refine Reg.tk (i:=13) (oi:=⟨some 18,.load 9 (.tmp 17),9,"reader.go:70",#[⟨12,.data⟩,⟨2,.guard⟩],some (2,false)⟩) (v:=undef) [15,16] [] (Or.inr ⟨by rfl,rfl⟩) ?_
  try simp only[Act.put,Reg.l1,Reg.l2,Reg.l3]
  refine Reg.tk (i:=14) (oi:=⟨some 19,.move (.tmp 1),9,"reader.go:70",#[⟨2,.guard⟩],some (2,false)⟩) (v:=undef) [15,16] [] (Or.inr ⟨by rfl,rfl⟩) ?_
  try simp only[Act.put,Reg.l1,Reg.l2,Reg.l3]
  refine Reg.tk (i:=15) (oi:=⟨some 20,.binOp .neq 9 (.tmp 18) (.tmp 19) 9,4,"reader.go:70",#[⟨13,.data⟩,⟨14,.data⟩,⟨2,.guard⟩],some (2,false)⟩) (v:=undef) [16] [] (Or.inr ⟨by rfl,rfl⟩) ?_
  try simp only[Act.put,Reg.l1,Reg.l2,Reg.l3]
  refine' Reg.tk (i:=16) (oi:=⟨some 21,.pick (.tmp 7) (.const (.bool true)) (.tmp 20),4,"reader.go:70",#[⟨2,.data⟩,⟨15,.data⟩],none⟩) (v:=_) [] [] (Or.inl ⟨by rfl,Or.inl ?hy4⟩) ?r_4
  case hy4=>(intro w' kk ss; skip; go_simp; first | done | with_reducible rfl)
  try simp only[Act.put,Reg.l1,Reg.l2,Reg.l3]
  refine Reg.wpG_done (by kernel_rfl) (fun we ke se => ?_) _
  have hr0:=hr0.trans ke
  clear ke
  go_wp2
  go_ret
  exact .inl ⟨false,[],_,rfl,rfl,rfl,HR.out.since hr0,.of hr0⟩
 | cons t r =>
  rw[decide_eq_false (by simp)] at D
  obtain⟨b',o,m,c,i,hm,hi,HH,HB,HN⟩:=HR.out.all
  by_cases hq:L t.s=L s
  · rw[skp_yes hq]
    have hz:(t.s.toList == s.toList)=true:=by rw[toL,toL]; rw[hq]; simp
    have hy:(t.s.toList != s.toList)=false:=by rw[bne,hz]; rfl
    clear hq
    go_enter Tryz.func147,Tryz.ntmps147
    go_wp2
    have hr0:Since w w.drew:=Since.drew (Since.refl w)
    refine Reg.wp_region_G (S:=fun _=>True) (fun j => [].contains j) (by kernel_rfl) trivial ?_
    refine' Reg.tk (i:=0) (oi:=⟨some 5,.move (.tmp 0),116,"reader.go:70",#[],none⟩) (v:=_) [1,2,3,4,5,6,7,8,9,10,11,12,13,14,15,16] [] (Or.inl ⟨by rfl,Or.inl ?hy6⟩) ?r_6
    case hy6=>(intro w' kk ss; obtain⟨h0,h1,q0,q1,q2,q3⟩:=HH.out _ (hr0.trans kk); go_simp; first | done | with_reducible rfl)
    try simp only[Act.put,Reg.l1,Reg.l2,Reg.l3]
    refine Reg.tk (i:=1) (oi:=⟨some 6,.call ⟨.value (.func 94),#[.tmp 5],#[116]⟩,4,"reader.go:70",#[⟨0,.data⟩],none⟩) (v:=.bool false) [2,3,4,5,6,7,8,9,10,11,12,13,14,15,16] [] (Or.inl ⟨by rfl,Or.inr ⟨94,#[.pointer (some ⟨b,0,none⟩)],fun w' kk ss=>⟨?_,?_⟩⟩⟩) ?_
    · (try dsimp only at ss); go_simp
    · exact (D.out w' (hr0.trans kk)).mono fun e w'' h=>⟨h.1,h.2,trivial⟩
    try simp only[Act.put,Reg.l1,Reg.l2,Reg.l3]
    refine' Reg.tk (i:=2) (oi:=⟨some 7,.move (.tmp 6),4,"reader.go:70",#[⟨1,.data⟩,⟨1,.chain⟩],none⟩) (v:=_) [3,4,5,6,7,8,9,10,11,12,13,14,15,16] [] (Or.inl ⟨by rfl,Or.inl ?hy7⟩) ?r_7
    case hy7=>(intro w' kk ss; obtain⟨h0,h1,q0,q1,q2,q3⟩:=HH.out _ (hr0.trans kk); go_simp; first | done | with_reducible rfl)
    try simp only[Act.put,Reg.l1,Reg.l2,Reg.l3]
    refine' Reg.tk (i:=3) (oi:=⟨some 8,.move (.tmp 0),116,"reader.go:70",#[⟨2,.guard⟩],some (2,false)⟩) (v:=_) [4,5,6,11,12,13,15,16] [] (Or.inl ⟨by rfl,Or.inl ?hy8⟩) ?r_8
    case hy8=>(intro w' kk ss; obtain⟨h0,h1,q0,q1,q2,q3⟩:=HH.out _ (hr0.trans kk); go_simp; first | done | with_reducible rfl)
    try simp only[Act.put,Reg.l1,Reg.l2,Reg.l3]
    refine' Reg.tk (i:=4) (oi:=⟨some 9,.nilCheck (.tmp 8),0,"reader.go:70",#[⟨3,.data⟩,⟨2,.guard⟩],some (2,false)⟩) (v:=_) [5,6,11,12,13,15,16] [] (Or.inl ⟨by rfl,Or.inl ?hy9⟩) ?r_9
    case hy9=>(intro w' kk ss; obtain⟨h0,h1,q0,q1,q2,q3⟩:=HH.out _ (hr0.trans kk); go_simp; first | done | with_reducible rfl)
    try simp only[Act.put,Reg.l1,Reg.l2,Reg.l3]
    refine' Reg.tk (i:=5) (oi:=⟨some 10,.fieldAddr 88 (.tmp 9) 0,0,"reader.go:70",#[⟨4,.data⟩,⟨2,.guard⟩],some (2,false)⟩) (v:=_) [6,11,12,13,15,16] [] (Or.inl ⟨by rfl,Or.inl ?hy10⟩) ?r_10
    case hy10=>(intro w' kk ss; obtain⟨h0,h1,q0,q1,q2,q3⟩:=HH.out _ (hr0.trans kk); go_simp; first | done | with_reducible rfl)
    try simp only[Act.put,Reg.l1,Reg.l2,Reg.l3]
    refine' Reg.tk (i:=6) (oi:=⟨some 11,.load 54 (.tmp 10),54,"reader.go:70",#[⟨5,.data⟩,⟨2,.guard⟩],some (2,false)⟩) (v:=_) [11,12,13,15,16] [] (Or.inl ⟨by rfl,Or.inl ?hy11⟩) ?r_11
    case hy11=>(intro w' kk ss; obtain⟨h0,h1,q0,q1,q2,q3⟩:=HH.out _ (hr0.trans kk); go_simp; first | done | with_reducible rfl)
    try simp only[Act.put,Reg.l1,Reg.l2,Reg.l3]
    refine' Reg.tk (i:=7) (oi:=⟨some 12,.move (.tmp 0),116,"reader.go:70",#[⟨2,.guard⟩],some (2,false)⟩) (v:=_) [8,9,10,11,12,13,15,16] [] (Or.inl ⟨by rfl,Or.inl ?hy12⟩) ?r_12
    case hy12=>(intro w' kk ss; obtain⟨h0,h1,q0,q1,q2,q3⟩:=HH.out _ (hr0.trans kk); go_simp; first | done | with_reducible rfl)
    try simp only[Act.put,Reg.l1,Reg.l2,Reg.l3]
    refine' Reg.tk (i:=8) (oi:=⟨some 13,.nilCheck (.tmp 12),0,"reader.go:70",#[⟨7,.data⟩,⟨2,.guard⟩],some (2,false)⟩) (v:=_) [9,10,11,12,13,15,16] [] (Or.inl ⟨by rfl,Or.inl ?hy13⟩) ?r_13
    case hy13=>(intro w' kk ss; obtain⟨h0,h1,q0,q1,q2,q3⟩:=HH.out _ (hr0.trans kk); go_simp; first | done | with_reducible rfl)
    try simp only[Act.put,Reg.l1,Reg.l2,Reg.l3]
    refine' Reg.tk (i:=9) (oi:=⟨some 14,.fieldAddr 88 (.tmp 13) 1,0,"reader.go:70",#[⟨8,.data⟩,⟨2,.guard⟩],some (2,false)⟩) (v:=_) [10,11,12,13,15,16] [] (Or.inl ⟨by rfl,Or.inl ?hy14⟩) ?r_14
    case hy14=>(intro w' kk ss; obtain⟨h0,h1,q0,q1,q2,q3⟩:=HH.out _ (hr0.trans kk); go_simp; first | done | with_reducible rfl)
    try simp only[Act.put,Reg.l1,Reg.l2,Reg.l3]
    refine' Reg.tk (i:=10) (oi:=⟨some 15,.load 3 (.tmp 14),3,"reader.go:70",#[⟨9,.data⟩,⟨2,.guard⟩],some (2,false)⟩) (v:=_) [11,12,13,15,16] [] (Or.inl ⟨by rfl,Or.inl ?hy15⟩) ?r_15
    case hy15=>(intro w' kk ss; obtain⟨h0,h1,q0,q1,q2,q3⟩:=HH.out _ (hr0.trans kk); go_simp; first | done | with_reducible rfl)
    try simp only[Act.put,Reg.l1,Reg.l2,Reg.l3]
    refine' Reg.tk (i:=11) (oi:=⟨some 16,.indexAddr 54 (.tmp 11) (.tmp 15),0,"reader.go:70",#[⟨6,.data⟩,⟨10,.data⟩,⟨2,.guard⟩],some (2,false)⟩) (v:=_) [12,13,15,16] [] (Or.inl ⟨by rfl,Or.inl ?hy16⟩) ?r_16
    case hy16=>(intro w' kk ss; obtain⟨h0,h1,q0,q1,q2,q3⟩:=HH.out _ (hr0.trans kk); go_simp; first | done | with_reducible rfl)
    try simp only[Act.put,Reg.l1,Reg.l2,Reg.l3]
    refine' Reg.tk (i:=12) (oi:=⟨some 17,.fieldAddr 76 (.tmp 16) 1,0,"reader.go:70",#[⟨11,.data⟩,⟨2,.guard⟩],some (2,false)⟩) (v:=_) [13,15,16] [] (Or.inl ⟨by rfl,Or.inl ?hy17⟩) ?r_17
    case hy17=>(intro w' kk ss; obtain⟨h0,h1,q0,q1,q2,q3⟩:=HH.out _ (hr0.trans kk); go_simp; first | done | with_reducible rfl)
    try simp only[Act.put,Reg.l1,Reg.l2,Reg.l3]
    refine' Reg.tk (i:=13) (oi:=⟨some 18,.load 9 (.tmp 17),9,"reader.go:70",#[⟨12,.data⟩,⟨2,.guard⟩],some (2,false)⟩) (v:=_) [15,16] [] (Or.inl ⟨by rfl,Or.inl ?hy18⟩) ?r_18
    case hy18=>(intro w' kk ss; obtain⟨h0,h1,q0,q1,q2,q3⟩:=HH.out _ (hr0.trans kk); go_simp; first | done | with_reducible rfl)
    try simp only[Act.put,Reg.l1,Reg.l2,Reg.l3]
    refine' Reg.tk (i:=14) (oi:=⟨some 19,.move (.tmp 1),9,"reader.go:70",#[⟨2,.guard⟩],some (2,false)⟩) (v:=_) [15,16] [] (Or.inl ⟨by rfl,Or.inl ?hy19⟩) ?r_19
    case hy19=>(intro w' kk ss; obtain⟨h0,h1,q0,q1,q2,q3⟩:=HH.out _ (hr0.trans kk); go_simp; first | done | with_reducible rfl)
    try simp only[Act.put,Reg.l1,Reg.l2,Reg.l3]
    refine' Reg.tk (i:=15) (oi:=⟨some 20,.binOp .neq 9 (.tmp 18) (.tmp 19) 9,4,"reader.go:70",#[⟨13,.data⟩,⟨14,.data⟩,⟨2,.guard⟩],some (2,false)⟩) (v:=_) [16] [] (Or.inl ⟨by rfl,Or.inl ?hy20⟩) ?r_20
    case hy20=>(intro w' kk ss; obtain⟨h0,h1,q0,q1,q2,q3⟩:=HH.out _ (hr0.trans kk); go_simp; first | done | with_reducible rfl)
    try simp only[Act.put,Reg.l1,Reg.l2,Reg.l3]
    refine' Reg.tk (i:=16) (oi:=⟨some 21,.pick (.tmp 7) (.const (.bool true)) (.tmp 20),4,"reader.go:70",#[⟨2,.data⟩,⟨15,.data⟩],none⟩) (v:=_) [] [] (Or.inl ⟨by rfl,Or.inl ?hy21⟩) ?r_21
    case hy21=>(intro w' kk ss; obtain⟨h0,h1,q0,q1,q2,q3⟩:=HH.out _ (hr0.trans kk); go_simp; first | done | with_reducible rfl)
    try simp only[Act.put,Reg.l1,Reg.l2,Reg.l3]
    refine Reg.wpG_done (by kernel_rfl) (fun we ke se => ?_) _
    have hr0:=hr0.trans ke
    clear ke
    obtain⟨h0,h1,-⟩:=HH.out _ hr0
    have f1:=(HB.out.since hr0).no 1
    have hG:=HN.out _ hr0
    go_wp2
    go_ret
    exact .inl ⟨true,r,_,rfl,rfl,rfl,by first | exact hG | exact hG.since (Since.drew (Since.refl _)),by first | exact (Only.of hr0).set _ | exact ((Only.of hr0).set _).drew⟩
  · rw[skp_no hq]
    have hz:(t.s.toList == s.toList)=false:=by rw[toL,toL]; rw[beq_eq_false_iff_ne]; exact hq
    have hy:(t.s.toList != s.toList)=true:=by rw[bne,hz]; rfl
    clear hq
    go_enter Tryz.func147,Tryz.ntmps147
    go_wp2
    have hr0:Since w w.drew:=Since.drew (Since.refl w)
    refine Reg.wp_region_G (S:=fun _=>True) (fun j => [].contains j) (by kernel_rfl) trivial ?_
    refine' Reg.tk (i:=0) (oi:=⟨some 5,.move (.tmp 0),116,"reader.go:70",#[],none⟩) (v:=_) [1,2,3,4,5,6,7,8,9,10,11,12,13,14,15,16] [] (Or.inl ⟨by rfl,Or.inl ?hy23⟩) ?r_23
    case hy23=>(intro w' kk ss; obtain⟨h0,h1,q0,q1,q2,q3⟩:=HH.out _ (hr0.trans kk); go_simp; first | done | with_reducible rfl)
    try simp only[Act.put,Reg.l1,Reg.l2,Reg.l3]
    refine Reg.tk (i:=1) (oi:=⟨some 6,.call ⟨.value (.func 94),#[.tmp 5],#[116]⟩,4,"reader.go:70",#[⟨0,.data⟩],none⟩) (v:=.bool false) [2,3,4,5,6,7,8,9,10,11,12,13,14,15,16] [] (Or.inl ⟨by rfl,Or.inr ⟨94,#[.pointer (some ⟨b,0,none⟩)],fun w' kk ss=>⟨?_,?_⟩⟩⟩) ?_
    · (try dsimp only at ss); go_simp
    · exact (D.out w' (hr0.trans kk)).mono fun e w'' h=>⟨h.1,h.2,trivial⟩
    try simp only[Act.put,Reg.l1,Reg.l2,Reg.l3]
    refine' Reg.tk (i:=2) (oi:=⟨some 7,.move (.tmp 6),4,"reader.go:70",#[⟨1,.data⟩,⟨1,.chain⟩],none⟩) (v:=_) [3,4,5,6,7,8,9,10,11,12,13,14,15,16] [] (Or.inl ⟨by rfl,Or.inl ?hy24⟩) ?r_24
    case hy24=>(intro w' kk ss; obtain⟨h0,h1,q0,q1,q2,q3⟩:=HH.out _ (hr0.trans kk); go_simp; first | done | with_reducible rfl)
    try simp only[Act.put,Reg.l1,Reg.l2,Reg.l3]
    refine' Reg.tk (i:=3) (oi:=⟨some 8,.move (.tmp 0),116,"reader.go:70",#[⟨2,.guard⟩],some (2,false)⟩) (v:=_) [4,5,6,11,12,13,15,16] [] (Or.inl ⟨by rfl,Or.inl ?hy25⟩) ?r_25
    case hy25=>(intro w' kk ss; obtain⟨h0,h1,q0,q1,q2,q3⟩:=HH.out _ (hr0.trans kk); go_simp; first | done | with_reducible rfl)
    try simp only[Act.put,Reg.l1,Reg.l2,Reg.l3]
    refine' Reg.tk (i:=4) (oi:=⟨some 9,.nilCheck (.tmp 8),0,"reader.go:70",#[⟨3,.data⟩,⟨2,.guard⟩],some (2,false)⟩) (v:=_) [5,6,11,12,13,15,16] [] (Or.inl ⟨by rfl,Or.inl ?hy26⟩) ?r_26
    case hy26=>(intro w' kk ss; obtain⟨h0,h1,q0,q1,q2,q3⟩:=HH.out _ (hr0.trans kk); go_simp; first | done | with_reducible rfl)
    try simp only[Act.put,Reg.l1,Reg.l2,Reg.l3]
    refine' Reg.tk (i:=5) (oi:=⟨some 10,.fieldAddr 88 (.tmp 9) 0,0,"reader.go:70",#[⟨4,.data⟩,⟨2,.guard⟩],some (2,false)⟩) (v:=_) [6,11,12,13,15,16] [] (Or.inl ⟨by rfl,Or.inl ?hy27⟩) ?r_27
    case hy27=>(intro w' kk ss; obtain⟨h0,h1,q0,q1,q2,q3⟩:=HH.out _ (hr0.trans kk); go_simp; first | done | with_reducible rfl)
    try simp only[Act.put,Reg.l1,Reg.l2,Reg.l3]
    refine' Reg.tk (i:=6) (oi:=⟨some 11,.load 54 (.tmp 10),54,"reader.go:70",#[⟨5,.data⟩,⟨2,.guard⟩],some (2,false)⟩) (v:=_) [11,12,13,15,16] [] (Or.inl ⟨by rfl,Or.inl ?hy28⟩) ?r_28
    case hy28=>(intro w' kk ss; obtain⟨h0,h1,q0,q1,q2,q3⟩:=HH.out _ (hr0.trans kk); go_simp; first | done | with_reducible rfl)
    try simp only[Act.put,Reg.l1,Reg.l2,Reg.l3]
    refine' Reg.tk (i:=7) (oi:=⟨some 12,.move (.tmp 0),116,"reader.go:70",#[⟨2,.guard⟩],some (2,false)⟩) (v:=_) [8,9,10,11,12,13,15,16] [] (Or.inl ⟨by rfl,Or.inl ?hy29⟩) ?r_29
    case hy29=>(intro w' kk ss; obtain⟨h0,h1,q0,q1,q2,q3⟩:=HH.out _ (hr0.trans kk); go_simp; first | done | with_reducible rfl)
    try simp only[Act.put,Reg.l1,Reg.l2,Reg.l3]
    refine' Reg.tk (i:=8) (oi:=⟨some 13,.nilCheck (.tmp 12),0,"reader.go:70",#[⟨7,.data⟩,⟨2,.guard⟩],some (2,false)⟩) (v:=_) [9,10,11,12,13,15,16] [] (Or.inl ⟨by rfl,Or.inl ?hy30⟩) ?r_30
    case hy30=>(intro w' kk ss; obtain⟨h0,h1,q0,q1,q2,q3⟩:=HH.out _ (hr0.trans kk); go_simp; first | done | with_reducible rfl)
    try simp only[Act.put,Reg.l1,Reg.l2,Reg.l3]
    refine' Reg.tk (i:=9) (oi:=⟨some 14,.fieldAddr 88 (.tmp 13) 1,0,"reader.go:70",#[⟨8,.data⟩,⟨2,.guard⟩],some (2,false)⟩) (v:=_) [10,11,12,13,15,16] [] (Or.inl ⟨by rfl,Or.inl ?hy31⟩) ?r_31
    case hy31=>(intro w' kk ss; obtain⟨h0,h1,q0,q1,q2,q3⟩:=HH.out _ (hr0.trans kk); go_simp; first | done | with_reducible rfl)
    try simp only[Act.put,Reg.l1,Reg.l2,Reg.l3]
    refine' Reg.tk (i:=10) (oi:=⟨some 15,.load 3 (.tmp 14),3,"reader.go:70",#[⟨9,.data⟩,⟨2,.guard⟩],some (2,false)⟩) (v:=_) [11,12,13,15,16] [] (Or.inl ⟨by rfl,Or.inl ?hy32⟩) ?r_32
    case hy32=>(intro w' kk ss; obtain⟨h0,h1,q0,q1,q2,q3⟩:=HH.out _ (hr0.trans kk); go_simp; first | done | with_reducible rfl)
    try simp only[Act.put,Reg.l1,Reg.l2,Reg.l3]
    refine' Reg.tk (i:=11) (oi:=⟨some 16,.indexAddr 54 (.tmp 11) (.tmp 15),0,"reader.go:70",#[⟨6,.data⟩,⟨10,.data⟩,⟨2,.guard⟩],some (2,false)⟩) (v:=_) [12,13,15,16] [] (Or.inl ⟨by rfl,Or.inl ?hy33⟩) ?r_33
    case hy33=>(intro w' kk ss; obtain⟨h0,h1,q0,q1,q2,q3⟩:=HH.out _ (hr0.trans kk); go_simp; first | done | with_reducible rfl)
    try simp only[Act.put,Reg.l1,Reg.l2,Reg.l3]
    refine' Reg.tk (i:=12) (oi:=⟨some 17,.fieldAddr 76 (.tmp 16) 1,0,"reader.go:70",#[⟨11,.data⟩,⟨2,.guard⟩],some (2,false)⟩) (v:=_) [13,15,16] [] (Or.inl ⟨by rfl,Or.inl ?hy34⟩) ?r_34
    case hy34=>(intro w' kk ss; obtain⟨h0,h1,q0,q1,q2,q3⟩:=HH.out _ (hr0.trans kk); go_simp; first | done | with_reducible rfl)
    try simp only[Act.put,Reg.l1,Reg.l2,Reg.l3]
    refine' Reg.tk (i:=13) (oi:=⟨some 18,.load 9 (.tmp 17),9,"reader.go:70",#[⟨12,.data⟩,⟨2,.guard⟩],some (2,false)⟩) (v:=_) [15,16] [] (Or.inl ⟨by rfl,Or.inl ?hy35⟩) ?r_35
    case hy35=>(intro w' kk ss; obtain⟨h0,h1,q0,q1,q2,q3⟩:=HH.out _ (hr0.trans kk); go_simp; first | done | with_reducible rfl)
    try simp only[Act.put,Reg.l1,Reg.l2,Reg.l3]
    refine' Reg.tk (i:=14) (oi:=⟨some 19,.move (.tmp 1),9,"reader.go:70",#[⟨2,.guard⟩],some (2,false)⟩) (v:=_) [15,16] [] (Or.inl ⟨by rfl,Or.inl ?hy36⟩) ?r_36
    case hy36=>(intro w' kk ss; obtain⟨h0,h1,q0,q1,q2,q3⟩:=HH.out _ (hr0.trans kk); go_simp; first | done | with_reducible rfl)
    try simp only[Act.put,Reg.l1,Reg.l2,Reg.l3]
    refine' Reg.tk (i:=15) (oi:=⟨some 20,.binOp .neq 9 (.tmp 18) (.tmp 19) 9,4,"reader.go:70",#[⟨13,.data⟩,⟨14,.data⟩,⟨2,.guard⟩],some (2,false)⟩) (v:=_) [16] [] (Or.inl ⟨by rfl,Or.inl ?hy37⟩) ?r_37
    case hy37=>(intro w' kk ss; obtain⟨h0,h1,q0,q1,q2,q3⟩:=HH.out _ (hr0.trans kk); go_simp; first | done | with_reducible rfl)
    try simp only[Act.put,Reg.l1,Reg.l2,Reg.l3]
    refine' Reg.tk (i:=16) (oi:=⟨some 21,.pick (.tmp 7) (.const (.bool true)) (.tmp 20),4,"reader.go:70",#[⟨2,.data⟩,⟨15,.data⟩],none⟩) (v:=_) [] [] (Or.inl ⟨by rfl,Or.inl ?hy38⟩) ?r_38
    case hy38=>(intro w' kk ss; obtain⟨h0,h1,q0,q1,q2,q3⟩:=HH.out _ (hr0.trans kk); go_simp; first | done | with_reducible rfl)
    try simp only[Act.put,Reg.l1,Reg.l2,Reg.l3]
    refine Reg.wpG_done (by kernel_rfl) (fun we ke se => ?_) _
    have hr0:=hr0.trans ke
    clear ke
    go_wp2
    go_ret
    exact .inl ⟨false,_,_,rfl,rfl,rfl,HR.out.since hr0,.of hr0⟩
abbrev plv (p:Pl):Value:=.agg #[.int .i64 p.k,.int .i64 p.n,.string p.s,.slice none 0 0]
theorem Got.cell4 {b g:Nat} {w w1:World} {t:TypeId} {u0 u1 u2 u3:Value} {cs:Array Value} (k:Only b w w1) (hg:w.heap.size≤g) (h:Bx w1 g cs t) {n:Int} {r:Ts} (hr:Rd b n r w1) (hb:b<g) :
 Only b w (put4 w1 g u0 u1 u2 u3)∧Rd b n r (put4 w1 g u0 u1 u2 u3):=
 ⟨((((k.new (Only.set (b:=g) (Only.refl _ _) _) hg).new (Only.set (b:=g) (Only.refl _ _) _) hg).new (Only.set (b:=g) (Only.refl _ _) _) hg).new (Only.set (b:=g) (Only.refl _ _) _) hg),
  (((hr.other _ hb).other _ hb).other _ hb).other _ hb⟩
theorem plain_any (b:Nat) (n:Int) (ts:Ts) (w:World) (h:Rd b n ts w) :
 Calls Tryz.prog 150 #[.pointer (some ⟨b,0,none⟩)] w (Got (fun w' p v=>v=plv p) b n (plain n ts) w):=by
 have HR:=lH h
 have hlt:=h.lt
 clear h
 have hw0:=sA w (.cells #[.int .i64 0,.int .i64 0,.string ⟨#[]⟩,.slice none 0 0] 93)
 have HZ:=lH (Bx.fresh w #[.int .i64 0,.int .i64 0,.string ⟨#[]⟩,.slice none 0 0] 93)
 cases ts with
 | nil =>
  have T:=lH (fun W (k:Since w W)=>take_none b n W (HR.out.since k))
  go_enter Tryz.func150,Tryz.ntmps150
  go_wp2_with (go_at_call 123; (with_reducible refine (T.out _ hw0).mono ?_); rintro e w1 ⟨rfl,hw1⟩)
  exact⟨rfl,.inr ⟨_,_,rfl,rfl,.of (hw0.trans hw1)⟩⟩
 | cons t r =>
  have T:=lH (fun W (k:Since w W)=>take_some b n t r W (HR.out.since k))
  by_cases h1:t.k=2
  · rw[show plain n (t :: r) = .ok ⟨1,t.v,nos⟩ r from by simp[plain,h1]]
    have z1:(t.k == 2)=true:=by rw[beq_iff_eq]; exact h1
    clear h1
    go_enter Tryz.func150,Tryz.ntmps150
    go_wp2_with (go_at_call 123; (with_reducible refine (T.out _ hw0).mono ?_); rintro e w1 ⟨rfl,hr1,ho1⟩; have HT1:=lH (Bx.fresh w1 #[.int .i64 t.k,.string t.s,.int .i64 t.v,.int .i64 t.a] 76); obtain⟨q0,q1,q2,q3⟩:=HT1.out.four; have HZ1:=lH ((ho1.bx HZ.out (Nat.ne_of_gt hlt)).since (sA w1 (.cells #[.int .i64 t.k,.string t.s,.int .i64 t.v,.int .i64 t.a] 76))); obtain⟨e0,e1,e2,e3⟩:=HZ1.out.four; obtain⟨f0,f1,f2,f3⟩:=HZ1.out.four')
    go_wp2
    have B:=(HZ1.out.put4 (.int .i64 1) (.int .i64 t.v) (.string ⟨#[]⟩) (.slice none 0 0))
    obtain⟨p0,p1,p2,p3⟩:=B.four
    unfold put4 at p0 p1 p2 p3
    obtain⟨k1,k2⟩:=Got.cell4 (u0:=.int .i64 1) (u1:=.int .i64 t.v) (u2:=.string ⟨#[]⟩) (u3:=.slice none 0 0) (((Only.of hw0).trans ho1).trans (.of (sA _ _))) (Nat.le_refl _) HZ1.out (hr1.since (sA _ _)) hlt
    refine bodyPost_ret (v:=plv ⟨1,t.v,nos⟩) ?_ rfl ?_
    · simp[results,Tryz.results150,go_sem,p0,p1,p2,p3,nos]
    · exact .inl ⟨⟨1,t.v,nos⟩,r,_,rfl,rfl,rfl,by first | exact k2 | exact k2.since (Since.drew (Since.refl _)),by first | exact k1 | exact k1.drew⟩
  have z1:(t.k == 2)=false:=by rw[beq_eq_false_iff_ne]; exact h1
  by_cases h2:L t.s = [116,114,117,101]
  · rw[show plain n (t :: r) = .ok ⟨2,1,nos⟩ r from by simp[plain,h1,h2]]
    have z2:(t.s.toList == [116,114,117,101])=true:=by rw[toL,h2]; rfl
    clear h1 h2
    go_enter Tryz.func150,Tryz.ntmps150
    go_wp2_with (go_at_call 123; (with_reducible refine (T.out _ hw0).mono ?_); rintro e w1 ⟨rfl,hr1,ho1⟩; have HT1:=lH (Bx.fresh w1 #[.int .i64 t.k,.string t.s,.int .i64 t.v,.int .i64 t.a] 76); obtain⟨q0,q1,q2,q3⟩:=HT1.out.four; have HZ1:=lH ((ho1.bx HZ.out (Nat.ne_of_gt hlt)).since (sA w1 (.cells #[.int .i64 t.k,.string t.s,.int .i64 t.v,.int .i64 t.a] 76))); obtain⟨e0,e1,e2,e3⟩:=HZ1.out.four; obtain⟨f0,f1,f2,f3⟩:=HZ1.out.four')
    go_wp2
    have B:=(HZ1.out.put4 (.int .i64 2) (.int .i64 1) (.string ⟨#[]⟩) (.slice none 0 0))
    obtain⟨p0,p1,p2,p3⟩:=B.four
    unfold put4 at p0 p1 p2 p3
    obtain⟨k1,k2⟩:=Got.cell4 (u0:=.int .i64 2) (u1:=.int .i64 1) (u2:=.string ⟨#[]⟩) (u3:=.slice none 0 0) (((Only.of hw0).trans ho1).trans (.of (sA _ _))) (Nat.le_refl _) HZ1.out (hr1.since (sA _ _)) hlt
    refine bodyPost_ret (v:=plv ⟨2,1,nos⟩) ?_ rfl ?_
    · simp[results,Tryz.results150,go_sem,p0,p1,p2,p3,nos]
    · exact .inl ⟨⟨2,1,nos⟩,r,_,rfl,rfl,rfl,by first | exact k2 | exact k2.since (Since.drew (Since.refl _)),by first | exact k1 | exact k1.drew⟩
  have z2:(t.s.toList == [116,114,117,101])=false:=by rw[toL,beq_eq_false_iff_ne]; exact h2
  by_cases h3:L t.s = [102,97,108,115,101]
  · rw[show plain n (t :: r) = .ok ⟨2,0,nos⟩ r from by simp[plain,h1,h2,h3]]
    have z3:(t.s.toList == [102,97,108,115,101])=true:=by rw[toL,h3]; rfl
    clear h1 h2 h3
    go_enter Tryz.func150,Tryz.ntmps150
    go_wp2_with (go_at_call 123; (with_reducible refine (T.out _ hw0).mono ?_); rintro e w1 ⟨rfl,hr1,ho1⟩; have HT1:=lH (Bx.fresh w1 #[.int .i64 t.k,.string t.s,.int .i64 t.v,.int .i64 t.a] 76); obtain⟨q0,q1,q2,q3⟩:=HT1.out.four; have HZ1:=lH ((ho1.bx HZ.out (Nat.ne_of_gt hlt)).since (sA w1 (.cells #[.int .i64 t.k,.string t.s,.int .i64 t.v,.int .i64 t.a] 76))); obtain⟨e0,e1,e2,e3⟩:=HZ1.out.four; obtain⟨f0,f1,f2,f3⟩:=HZ1.out.four')
    go_wp2
    have B:=(HZ1.out.put4 (.int .i64 2) (.int .i64 0) (.string ⟨#[]⟩) (.slice none 0 0))
    obtain⟨p0,p1,p2,p3⟩:=B.four
    unfold put4 at p0 p1 p2 p3
    obtain⟨k1,k2⟩:=Got.cell4 (u0:=.int .i64 2) (u1:=.int .i64 0) (u2:=.string ⟨#[]⟩) (u3:=.slice none 0 0) (((Only.of hw0).trans ho1).trans (.of (sA _ _))) (Nat.le_refl _) HZ1.out (hr1.since (sA _ _)) hlt
    refine bodyPost_ret (v:=plv ⟨2,0,nos⟩) ?_ rfl ?_
    · simp[results,Tryz.results150,go_sem,p0,p1,p2,p3,nos]
    · exact .inl ⟨⟨2,0,nos⟩,r,_,rfl,rfl,rfl,by first | exact k2 | exact k2.since (Since.drew (Since.refl _)),by first | exact k1 | exact k1.drew⟩
  have z3:(t.s.toList == [102,97,108,115,101])=false:=by rw[toL,beq_eq_false_iff_ne]; exact h3
  by_cases h4:nameB t=true
  · rw[show plain n (t :: r) = .ok ⟨3,0,t.s⟩ r from by simp[plain,h1,h2,h3,h4]]
    have CT:=lH (fun W=>isName_any t W)
    rw[h4] at CT
    have PM:=lH (fun W=>permit_yes t W)
    clear h1 h2 h3 h4
    go_enter Tryz.func150,Tryz.ntmps150
    go_wp2_with (go_at_call 123; (with_reducible refine (T.out _ hw0).mono ?_); rintro e w1 ⟨rfl,hr1,ho1⟩; have HT1:=lH (Bx.fresh w1 #[.int .i64 t.k,.string t.s,.int .i64 t.v,.int .i64 t.a] 76); obtain⟨q0,q1,q2,q3⟩:=HT1.out.four; have HZ1:=lH ((ho1.bx HZ.out (Nat.ne_of_gt hlt)).since (sA w1 (.cells #[.int .i64 t.k,.string t.s,.int .i64 t.v,.int .i64 t.a] 76))); obtain⟨e0,e1,e2,e3⟩:=HZ1.out.four; obtain⟨f0,f1,f2,f3⟩:=HZ1.out.four')
    obtain⟨W1,hW1⟩:∃ W1,W1=w1.alloc (.cells #[.int .i64 t.k,.string t.s,.int .i64 t.v,.int .i64 t.a] 76):=⟨_,rfl⟩
    rw[← hW1] at HT1 HZ1 ⊢
    have hs1:Since w1 W1:=by rw[hW1]; exact sA _ _
    have HX:=lH (fun W (k:Since W1 W)=>HT1.out.since k)
    clear hW1 q0 q1 q2 q3 e0 e1 e2 e3 f0 f1 f2 f3
    have hr0:Since W1 W1.drew:=Since.drew (Since.refl W1)
    refine Reg.wp_region_G (S:=fun _=>True) (fun j => [].contains j) (by kernel_rfl) trivial ?_
    refine' Reg.tk (i:=0) (oi:=⟨some 23,.load 76 (.tmp 3),76,"expr.go:57",#[],none⟩) (v:=_) [3] [] (Or.inl ⟨by rfl,Or.inl ?hy40⟩) ?r_40
    case hy40=>(intro w' kk ss; obtain⟨q0,q1,q2,q3⟩:=(HX.out _ (hr0.trans kk)).four; go_simp; first | done | with_reducible rfl)
    try simp only[Act.put,Reg.l1,Reg.l2,Reg.l3]
    refine' Reg.tk (i:=1) (oi:=⟨some 24,.load 76 (.tmp 3),76,"expr.go:57",#[],none⟩) (v:=_) [2,3] [] (Or.inl ⟨by rfl,Or.inl ?hy41⟩) ?r_41
    case hy41=>(intro w' kk ss; obtain⟨q0,q1,q2,q3⟩:=(HX.out _ (hr0.trans kk)).four; go_simp; first | done | with_reducible rfl)
    try simp only[Act.put,Reg.l1,Reg.l2,Reg.l3]
    refine Reg.tk (i:=2) (oi:=⟨some 25,.call ⟨.value (.func 166),#[.tmp 24],#[76]⟩,4,"expr.go:57",#[⟨1,.data⟩],none⟩) (v:=.bool true) [3] [] (Or.inl ⟨by rfl,Or.inr ⟨166,#[tokv t],fun w' kk ss=>⟨?_,?_⟩⟩⟩) ?_
    · (try dsimp only at ss); go_simp
    · exact (CT.out w').mono fun e w'' h=>⟨h.1,h.2,trivial⟩
    try simp only[Act.put,Reg.l1,Reg.l2,Reg.l3]
    refine Reg.wpG_ready (rs:=[3]) (by kernel_rfl) (by simp) (fun wq39001 k39001' sq39001 => ?_)
    have hr0:=hr0.trans k39001'
    refine Reg.AllG.first (o:=⟨some 26,.call ⟨.value (.func 124),#[.tmp 23,.tmp 25],#[76,4]⟩,0,"expr.go:57",#[⟨0,.data⟩,⟨2,.data⟩,⟨2,.chain⟩],none⟩) rfl (by rfl) (fun K hK=>?_) Reg.AllG.nil
    go_simp
    (with_reducible refine (PM.out wq39001).mono ?_)
    rintro e y39001 ⟨rfl,hx⟩
    refine hK.out _ _ trivial hx ?_
    clear hK K
    have hr0:=hr0.trans hx
    clear hx
    try simp only[Act.put,Reg.l1,Reg.l2,Reg.l3]
    refine Reg.wpG_done (by kernel_rfl) (fun we ke se => ?_) _
    have hr0:=hr0.trans ke
    clear ke
    obtain⟨q0,q1,q2,q3⟩:=(HX.out _ hr0).four
    have HZ1:=lH (HZ1.out.since hr0)
    obtain⟨e0,e1,e2,e3⟩:=HZ1.out.four
    obtain⟨f0,f1,f2,f3⟩:=HZ1.out.four'
    go_wp2
    have B:=(HZ1.out.put4 (.int .i64 3) (.int .i64 0) (.string t.s) (.slice none 0 0))
    obtain⟨p0,p1,p2,p3⟩:=B.four
    unfold put4 at p0 p1 p2 p3
    obtain⟨k1,k2⟩:=Got.cell4 (u0:=.int .i64 3) (u1:=.int .i64 0) (u2:=.string t.s) (u3:=.slice none 0 0) (((Only.of hw0).trans ho1).trans (.of (hs1.trans hr0))) (Nat.le_refl _) HZ1.out (hr1.since (hs1.trans hr0)) hlt
    refine bodyPost_ret (v:=plv ⟨3,0,t.s⟩) ?_ rfl ?_
    · simp[results,Tryz.results150,go_sem,p0,p1,p2,p3,nos]
    · exact .inl ⟨⟨3,0,t.s⟩,r,_,rfl,rfl,rfl,by first | exact k2 | exact k2.since (Since.drew (Since.refl _)),by first | exact k1 | exact k1.drew⟩
  · have h5:nameB t=false:=by simpa using h4
    rw[show plain n (t :: r) = .bad t.a 5 from by simp[plain,h1,h2,h3,h5,wrong,place]]
    have CT:=lH (fun W=>isName_any t W)
    rw[h5] at CT
    have PM:=lH (fun W=>permit_no t W)
    clear h1 h2 h3 h4 h5
    go_enter Tryz.func150,Tryz.ntmps150
    go_wp2_with (go_at_call 123; (with_reducible refine (T.out _ hw0).mono ?_); rintro e w1 ⟨rfl,hr1,ho1⟩; have HT1:=lH (Bx.fresh w1 #[.int .i64 t.k,.string t.s,.int .i64 t.v,.int .i64 t.a] 76); obtain⟨q0,q1,q2,q3⟩:=HT1.out.four; have HZ1:=lH ((ho1.bx HZ.out (Nat.ne_of_gt hlt)).since (sA w1 (.cells #[.int .i64 t.k,.string t.s,.int .i64 t.v,.int .i64 t.a] 76))); obtain⟨e0,e1,e2,e3⟩:=HZ1.out.four; obtain⟨f0,f1,f2,f3⟩:=HZ1.out.four')
    obtain⟨W1,hW1⟩:∃ W1,W1=w1.alloc (.cells #[.int .i64 t.k,.string t.s,.int .i64 t.v,.int .i64 t.a] 76):=⟨_,rfl⟩
    rw[← hW1] at HT1 HZ1 ⊢
    have hs1:Since w1 W1:=by rw[hW1]; exact sA _ _
    have HX:=lH (fun W (k:Since W1 W)=>HT1.out.since k)
    clear hW1 q0 q1 q2 q3 e0 e1 e2 e3 f0 f1 f2 f3
    have hr0:Since W1 W1.drew:=Since.drew (Since.refl W1)
    refine Reg.wp_region_G (S:=fun _=>True) (fun j => [].contains j) (by kernel_rfl) trivial ?_
    refine' Reg.tk (i:=0) (oi:=⟨some 23,.load 76 (.tmp 3),76,"expr.go:57",#[],none⟩) (v:=_) [3] [] (Or.inl ⟨by rfl,Or.inl ?hy43⟩) ?r_43
    case hy43=>(intro w' kk ss; obtain⟨q0,q1,q2,q3⟩:=(HX.out _ (hr0.trans kk)).four; go_simp; first | done | with_reducible rfl)
    try simp only[Act.put,Reg.l1,Reg.l2,Reg.l3]
    refine' Reg.tk (i:=1) (oi:=⟨some 24,.load 76 (.tmp 3),76,"expr.go:57",#[],none⟩) (v:=_) [2,3] [] (Or.inl ⟨by rfl,Or.inl ?hy44⟩) ?r_44
    case hy44=>(intro w' kk ss; obtain⟨q0,q1,q2,q3⟩:=(HX.out _ (hr0.trans kk)).four; go_simp; first | done | with_reducible rfl)
    try simp only[Act.put,Reg.l1,Reg.l2,Reg.l3]
    refine Reg.tk (i:=2) (oi:=⟨some 25,.call ⟨.value (.func 166),#[.tmp 24],#[76]⟩,4,"expr.go:57",#[⟨1,.data⟩],none⟩) (v:=.bool false) [3] [] (Or.inl ⟨by rfl,Or.inr ⟨166,#[tokv t],fun w' kk ss=>⟨?_,?_⟩⟩⟩) ?_
    · (try dsimp only at ss); go_simp
    · exact (CT.out w').mono fun e w'' h=>⟨h.1,h.2,trivial⟩
    try simp only[Act.put,Reg.l1,Reg.l2,Reg.l3]
    refine Reg.wpG_ready (rs:=[3]) (by kernel_rfl) (by simp) (fun wq42001 k42001' sq42001 => ?_)
    have hr0:=hr0.trans k42001'
    refine Reg.AllG.first (o:=⟨some 26,.call ⟨.value (.func 124),#[.tmp 23,.tmp 25],#[76,4]⟩,0,"expr.go:57",#[⟨0,.data⟩,⟨2,.data⟩,⟨2,.chain⟩],none⟩) rfl (by rfl) (fun K hK=>?_) Reg.AllG.nil
    go_simp
    (with_reducible refine (PM.out wq42001).mono ?_)
    rintro e y42001 ⟨rfl,hx⟩
    exact⟨rfl,.inr ⟨_,_,rfl,rfl,((Only.of hw0).trans ho1).trans (.of (hs1.trans (hr0.trans hx)))⟩⟩
end Go.Proofs.YtjmmcnldfkjebaaGreatDoor.Prs
