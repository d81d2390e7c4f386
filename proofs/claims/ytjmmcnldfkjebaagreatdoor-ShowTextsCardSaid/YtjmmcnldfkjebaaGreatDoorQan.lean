/- The document's own parser: kinds and expressions. The document's own parser: expressions, whole. The document' -/
import Derived.Test.YtjmmcnldfkjebaaGreatDoorQam
set_option maxHeartbeats 8000000
set_option maxRecDepth 20000
set_option linter.unusedVariables false
set_option linter.unusedSimpArgs false
section
namespace Go.Proofs.YtjmmcnldfkjebaaGreatDoor.Doc6
open Go.RowKit
open Dig Lx Tk Ps Ti
open Prs (Old)
theorem kind_no (A:Option Addr) (m c:Nat) (n:Int) (i at_ er:Int) (w:World) (he:er≠0) :
 Calls Tryz.prog 136 #[.agg #[.slice A m c,.int .i64 i,.int .i64 n,.int .i64 at_,.int .i64 er]] w fun e w'=>e = .returned (.tuple #[.agg #[.slice A m c,.int .i64 i,.int .i64 n,.int .i64 at_,.int .i64 er],.bool false])∧Since w w':=by
 have I1:=lH (fun W=>is_no A m c n i at_ er ⟨#[98,111,111,108]⟩ W he (by decide))
 have TK:=lH (fun W=>take_no A m c n i at_ er ⟨#[105,110,116]⟩ W he)
 clear he
 have hs1:Since w ((w.alloc (.cells #[.slice A m c,.int .i64 i,.int .i64 n,.int .i64 at_,.int .i64 er] 127)).alloc (.cells #[.slice none 0 0,.int .i64 0,.int .i64 0,.int .i64 0,.int .i64 0] 127)):=(sA _ _).trans (sA _ _)
 have HX:=lH (fun W (kz:Since ((w.alloc (.cells #[.slice A m c,.int .i64 i,.int .i64 n,.int .i64 at_,.int .i64 er] 127)).alloc (.cells #[.slice none 0 0,.int .i64 0,.int .i64 0,.int .i64 0,.int .i64 0] 127)) W)=>((Bx.fresh w #[.slice A m c,.int .i64 i,.int .i64 n,.int .i64 at_,.int .i64 er] 127).since (sA _ _)).since kz)
 have HZ:=lH (fun W (kz:Since ((w.alloc (.cells #[.slice A m c,.int .i64 i,.int .i64 n,.int .i64 at_,.int .i64 er] 127)).alloc (.cells #[.slice none 0 0,.int .i64 0,.int .i64 0,.int .i64 0,.int .i64 0] 127)) W)=>(Bx.new kz (by simp):Bx W (w.heap.size+1) #[.slice none 0 0,.int .i64 0,.int .i64 0,.int .i64 0,.int .i64 0] 127))
 have HS:=lH hs1
 clear hs1
 obtain⟨g0,g1,g2,g3,g4⟩:=bx5 (HX.out _ (Since.refl _))
 obtain⟨z0,z1,z2,z3,z4⟩:=bx5 (HZ.out _ (Since.refl _))
 obtain⟨y0,y1,y2,y3,y4⟩:=bx5' (HZ.out _ (Since.refl _))
 go_enter Tryz.func136,Tryz.ntmps136
 go_wp2_with (first
  | (go_at_call 116; (with_reducible refine (I1.out _).mono ?_); rintro e0 w1 ⟨rfl,h1⟩; obtain⟨g0,g1,g2,g3,g4⟩:=bx5 (HX.out _ h1))
  | (go_at_call 77; (with_reducible refine (TK.out _).mono ?_); rintro e0 w2 ⟨rfl,h2⟩; have k2:=h1.trans h2; obtain⟨z0,z1,z2,z3,z4⟩:=bx5 (HZ.out _ k2); obtain⟨y0,y1,y2,y3,y4⟩:=bx5' (HZ.out _ k2)))
 refine bodyPost_ret (v:=.tuple #[.agg #[.slice A m c,.int .i64 i,.int .i64 n,.int .i64 at_,.int .i64 er],.bool false]) ?_ rfl ?_
 · simp[results,Tryz.results136,go_sem,z0,z1,z2,z3,z4]
 · exact⟨rfl,since_put5 (HS.out.trans k2) (Nat.le_succ _) _ _ _ _ _⟩
theorem kind_ok (A:Option Addr) (m c:Nat) (n:Int) (ts:List Tv) (k:Nat) (w:World) (H:Toks w (.slice A m c) ts) (hl:ts.length≤10000) (hk:k≤ts.length) :
 Calls Tryz.prog 136 #[.agg #[.slice A m c,.int .i64 (k:Int),.int .i64 n,.int .i64 0,.int .i64 0]] w (Got (fun _ a v=>v = .bool a) (fun v=>v = .bool false) A m c n ts (kind n (ts.drop k)) w):=by
 have I0:=lH (fun W (kk:Since w W)=>is_ok A m c n ts k ⟨#[98,111,111,108]⟩ W (H.since kk) (by decide))
 have eb:L ⟨#[98,111,111,108]⟩ = [98,111,111,108]:=rfl
 have TK:=lH (fun W (kk:Since w W)=>take_ok A m c n ts k ⟨#[105,110,116]⟩ W (H.since kk) hl hk (by decide))
 have NX:=lH (fun W=>next_ok A m c n k W (by omega))
 have hs1:Since w ((w.alloc (.cells #[.slice A m c,.int .i64 (k:Int),.int .i64 n,.int .i64 0,.int .i64 0] 127)).alloc (.cells #[.slice none 0 0,.int .i64 0,.int .i64 0,.int .i64 0,.int .i64 0] 127)):=(sA _ _).trans (sA _ _)
 have HX:=lH (fun W (kz:Since ((w.alloc (.cells #[.slice A m c,.int .i64 (k:Int),.int .i64 n,.int .i64 0,.int .i64 0] 127)).alloc (.cells #[.slice none 0 0,.int .i64 0,.int .i64 0,.int .i64 0,.int .i64 0] 127)) W)=>((Bx.fresh w #[.slice A m c,.int .i64 (k:Int),.int .i64 n,.int .i64 0,.int .i64 0] 127).since (sA _ _)).since kz)
 have HZ:=lH (fun W (kz:Since ((w.alloc (.cells #[.slice A m c,.int .i64 (k:Int),.int .i64 n,.int .i64 0,.int .i64 0] 127)).alloc (.cells #[.slice none 0 0,.int .i64 0,.int .i64 0,.int .i64 0,.int .i64 0] 127)) W)=>(Bx.new kz (by simp):Bx W (w.heap.size+1) #[.slice none 0 0,.int .i64 0,.int .i64 0,.int .i64 0,.int .i64 0] 127))
 have HS:=lH hs1
 clear hs1
 obtain⟨g0,g1,g2,g3,g4⟩:=bx5 (HX.out _ (Since.refl _))
 obtain⟨z0,z1,z2,z3,z4⟩:=bx5 (HZ.out _ (Since.refl _))
 obtain⟨y0,y1,y2,y3,y4⟩:=bx5' (HZ.out _ (Since.refl _))
 rw[eb] at I0
 cases hi:isW [98,111,111,108] (ts.drop k) with
 | true =>
  rw[hi] at I0
  have hlt:k<ts.length:=by
   apply Decidable.byContradiction; intro hn
   rw[drop_end (by omega)] at hi; cases hi
  have HEQ:=lH (show kind n (ts.drop k) = .ok true (ts.drop (k+1)) from (if_pos hi).trans (by rw[List.tail_drop]; rfl))
  clear H hi eb
  go_enter Tryz.func136,Tryz.ntmps136
  go_wp2_with (first
  | (go_at_call 116; (with_reducible refine (I0.out _ HS.out).mono ?_); rintro e0 w1 ⟨rfl,h1⟩; obtain⟨g0,g1,g2,g3,g4⟩:=bx5 (HX.out _ h1))
  | (go_at_call 110; (with_reducible refine (NX.out _).mono ?_); rintro e0 w2 ⟨rfl,h2⟩; have k2:=h1.trans h2; obtain⟨z0,z1,z2,z3,z4⟩:=bx5 (HZ.out _ k2); obtain⟨y0,y1,y2,y3,y4⟩:=bx5' (HZ.out _ k2)))
  refine bodyPost_ret (v:=.tuple #[.agg #[.slice A m c,.int .i64 ((k+1:Nat):Int),.int .i64 n,.int .i64 0,.int .i64 0],.bool true]) ?_ rfl ?_
  · simp[results,Tryz.results136,go_sem,z0,z1,z2,z3,z4]
  · exact .inl ⟨true,k+1,_,HEQ.out,hlt,rfl,rfl,since_put5 (HS.out.trans k2) (Nat.le_succ _) _ _ _ _ _⟩
 | false =>
  rw[hi] at I0
  have HEQ:=lH (show kind n (ts.drop k)=bnd (take [105,110,116]) (fun _=>ret false) n (ts.drop k) from if_neg (by rw[hi]; exact Bool.false_ne_true))
  have ei:L ⟨#[105,110,116]⟩ = [105,110,116]:=rfl
  rw[ei] at TK
  clear H hi eb ei
  go_enter Tryz.func136,Tryz.ntmps136
  go_wp2_with (first
  | (go_at_call 116; (with_reducible refine (I0.out _ HS.out).mono ?_); rintro e0 w1 ⟨rfl,h1⟩; obtain⟨g0,g1,g2,g3,g4⟩:=bx5 (HX.out _ h1))
  | (go_at_call 77; (with_reducible refine (TK.out _ (HS.out.trans h1)).mono ?_); rintro e0 w2 (⟨k2,hr2,l2,rfl,h2⟩ | ⟨p,x,hr2,i,at_,er,rfl,he,h2⟩) <;> have kk2:=h1.trans h2 <;> obtain⟨z0,z1,z2,z3,z4⟩:=bx5 (HZ.out _ kk2) <;> obtain⟨y0,y1,y2,y3,y4⟩:=bx5' (HZ.out _ kk2)))
  · refine bodyPost_ret (v:=.tuple #[.agg #[.slice A m c,.int .i64 (k2:Int),.int .i64 n,.int .i64 0,.int .i64 0],.bool false]) ?_ rfl ?_
    · simp[results,Tryz.results136,go_sem,z0,z1,z2,z3,z4]
    · exact .inl ⟨false,k2,_,HEQ.out.trans (by simp only[bnd,R.bind,hr2]; rfl),l2,rfl,rfl,since_put5 (HS.out.trans kk2) (Nat.le_succ _) _ _ _ _ _⟩
  · refine bodyPost_ret (v:=.tuple #[.agg #[.slice A m c,.int .i64 i,.int .i64 n,.int .i64 at_,.int .i64 er],.bool false]) ?_ rfl ?_
    · simp[results,Tryz.results136,go_sem,z0,z1,z2,z3,z4]
    · exact .inr ⟨p,x,i,at_,er,_,HEQ.out.trans (by simp only[bnd,R.bind,hr2]),he,rfl,rfl,since_put5 (HS.out.trans kk2) (Nat.le_succ _) _ _ _ _ _⟩
theorem expr_no (A:Option Addr) (m c:Nat) (n:Int) (i at_ er:Int) (w:World) (he:er≠0) :
 Calls Tryz.prog 144 #[.agg #[.slice A m c,.int .i64 i,.int .i64 n,.int .i64 at_,.int .i64 er]] w fun e w'=>e = .returned (.tuple #[.agg #[.slice A m c,.int .i64 i,.int .i64 n,.int .i64 at_,.int .i64 er],.agg #[.int .i64 0,.int .i64 0,.string ⟨#[]⟩,.slice none 0 0]])∧Since w w':=by
 have I1:=lH (fun W=>is_no A m c n i at_ er ⟨#[91]⟩ W he (by decide))
 have PN:=lH (fun W=>plain_no A m c n i at_ er W he)
 clear he
 have HS:=lH (show Since w (((w.alloc (.cells #[.slice A m c,.int .i64 i,.int .i64 n,.int .i64 at_,.int .i64 er] 127)).alloc (.cells #[.slice none 0 0,.int .i64 0,.int .i64 0,.int .i64 0,.int .i64 0] 127)).alloc (.cells #[.int .i64 0,.int .i64 0,.string ⟨#[]⟩,.slice none 0 0] 45)) from ((sA _ _).trans (sA _ _)).trans (sA _ _))
 have HX:=lH (fun W (kz:Since (((w.alloc (.cells #[.slice A m c,.int .i64 i,.int .i64 n,.int .i64 at_,.int .i64 er] 127)).alloc (.cells #[.slice none 0 0,.int .i64 0,.int .i64 0,.int .i64 0,.int .i64 0] 127)).alloc (.cells #[.int .i64 0,.int .i64 0,.string ⟨#[]⟩,.slice none 0 0] 45)) W)=>(((Bx.fresh w #[.slice A m c,.int .i64 i,.int .i64 n,.int .i64 at_,.int .i64 er] 127).since (sA _ _)).since (sA _ _)).since kz)
 have HZ:=lH (fun W (kz:Since (((w.alloc (.cells #[.slice A m c,.int .i64 i,.int .i64 n,.int .i64 at_,.int .i64 er] 127)).alloc (.cells #[.slice none 0 0,.int .i64 0,.int .i64 0,.int .i64 0,.int .i64 0] 127)).alloc (.cells #[.int .i64 0,.int .i64 0,.string ⟨#[]⟩,.slice none 0 0] 45)) W)=>(((Bx.fresh (w.alloc (.cells #[.slice A m c,.int .i64 i,.int .i64 n,.int .i64 at_,.int .i64 er] 127)) #[.slice none 0 0,.int .i64 0,.int .i64 0,.int .i64 0,.int .i64 0] 127).since (sA _ _)).since kz))
 have HE:=lH (fun W (kz:Since (((w.alloc (.cells #[.slice A m c,.int .i64 i,.int .i64 n,.int .i64 at_,.int .i64 er] 127)).alloc (.cells #[.slice none 0 0,.int .i64 0,.int .i64 0,.int .i64 0,.int .i64 0] 127)).alloc (.cells #[.int .i64 0,.int .i64 0,.string ⟨#[]⟩,.slice none 0 0] 45)) W)=>(Bx.new kz (by simp):Bx W (w.heap.size+1+1) #[.int .i64 0,.int .i64 0,.string ⟨#[]⟩,.slice none 0 0] 45))
 have sz1:(w.alloc (.cells #[.slice A m c,.int .i64 i,.int .i64 n,.int .i64 at_,.int .i64 er] 127)).heap.size=w.heap.size+1:=by simp
 simp only[sz1] at HZ
 clear sz1
 obtain⟨g0,g1,g2,g3,g4⟩:=bx5 (HX.out _ (Since.refl _))
 go_enter Tryz.func144,Tryz.ntmps144
 go_wp2_with (first
  | (go_at_call 116; (with_reducible refine (I1.out _).mono ?_); rintro e0 w1 ⟨rfl,h1⟩; obtain⟨g0,g1,g2,g3,g4⟩:=bx5 (HX.out _ h1))
  | (go_at_call 138; (with_reducible refine (PN.out _).mono ?_); rintro ee w2 ⟨rfl,h2⟩; have k2:=h1.trans h2; obtain⟨z0,z1,z2,z3,z4⟩:=bx5 (HZ.out _ k2); obtain⟨y0,y1,y2,y3,y4⟩:=bx5' (HZ.out _ k2); obtain⟨e0,e1,e2,e3⟩:=(HE.out _ k2).four; obtain⟨d0,d1,d2,d3⟩:=(HE.out _ k2).four'))
 refine bodyPost_ret (v:=.tuple #[.agg #[.slice A m c,.int .i64 i,.int .i64 n,.int .i64 at_,.int .i64 er],.agg #[.int .i64 0,.int .i64 0,.string ⟨#[]⟩,.slice none 0 0]]) ?_ rfl ?_
 · simp[results,Tryz.results144,go_sem,z0,z1,z2,z3,z4,e0,e1,e2,e3]
 · exact⟨rfl,since_put4 (since_put5 (HS.out.trans k2) (Nat.le_succ _) _ _ _ _ _) (Nat.le_succ_of_le (Nat.le_succ _)) _ _ _ _⟩
abbrev VX (w:World):World→Xp→Value→Prop:=fun w' x v=>∃ u:List Value,v = .agg u.toArray∧QX (Old w) w' x u
abbrev ZX:Value→Prop:=fun v=>∃ k:Int,v = .agg #[.int .i64 k,.int .i64 0,.string ⟨#[]⟩,.slice none 0 0]
theorem faro_nil (G:Nat→Prop):FarO G (.slice none 0 0):=fun b o n c e hn=>by injection e with e; cases e
end Go.Proofs.YtjmmcnldfkjebaaGreatDoor.Doc6
end
section
namespace Go.Proofs.YtjmmcnldfkjebaaGreatDoor.Doc6
open Go.RowKit
open Dig Lx Tk Ps Ti
open Prs (Only Old)
theorem only_put4 (W:World) (b:Nat) (u0 u1 u2 u3:Value):Only b W (put4 W b u0 u1 u2 u3):=((((Only.refl b W).set u0).set u1).set u2).set u3
theorem expr_ok (A:Option Addr) (m c:Nat) (n:Int) (ts:List Tv) (k:Nat) (w:World) (H:Toks w (.slice A m c) ts) (hl:ts.length≤10000) (hk:k≤ts.length) :
 Calls Tryz.prog 144 #[.agg #[.slice A m c,.int .i64 (k:Int),.int .i64 n,.int .i64 0,.int .i64 0]] w (Got (VX w) ZX A m c n ts (expr n (ts.drop k)) w):=by
 have I0:=lH (fun W (kk:Since w W)=>is_ok A m c n ts k ⟨#[91]⟩ W (H.since kk) (by decide))
 have eb:L ⟨#[91]⟩ = [91]:=rfl
 have PL:=lH (fun W (kk:Since w W)=>plain_ok A m c n ts k W (H.since kk) hl hk)
 have LI:=lH (fun k W (kk:Since w W) (hk:k≤ts.length)=>list_ok A m c n ts k W (H.since kk) hl hk)
 have NX:=lH (fun W=>next_ok A m c n k W (by omega))
 have HS:=lH (show Since w (((w.alloc (.cells #[.slice A m c,.int .i64 (k:Int),.int .i64 n,.int .i64 0,.int .i64 0] 127)).alloc (.cells #[.slice none 0 0,.int .i64 0,.int .i64 0,.int .i64 0,.int .i64 0] 127)).alloc (.cells #[.int .i64 0,.int .i64 0,.string ⟨#[]⟩,.slice none 0 0] 45)) from ((sA _ _).trans (sA _ _)).trans (sA _ _))
 have HX:=lH (fun W (kz:Since (((w.alloc (.cells #[.slice A m c,.int .i64 (k:Int),.int .i64 n,.int .i64 0,.int .i64 0] 127)).alloc (.cells #[.slice none 0 0,.int .i64 0,.int .i64 0,.int .i64 0,.int .i64 0] 127)).alloc (.cells #[.int .i64 0,.int .i64 0,.string ⟨#[]⟩,.slice none 0 0] 45)) W)=>(((Bx.fresh w #[.slice A m c,.int .i64 (k:Int),.int .i64 n,.int .i64 0,.int .i64 0] 127).since (sA _ _)).since (sA _ _)).since kz)
 have HZ:=lH (fun W (kz:Since (((w.alloc (.cells #[.slice A m c,.int .i64 (k:Int),.int .i64 n,.int .i64 0,.int .i64 0] 127)).alloc (.cells #[.slice none 0 0,.int .i64 0,.int .i64 0,.int .i64 0,.int .i64 0] 127)).alloc (.cells #[.int .i64 0,.int .i64 0,.string ⟨#[]⟩,.slice none 0 0] 45)) W)=>(((Bx.fresh (w.alloc (.cells #[.slice A m c,.int .i64 (k:Int),.int .i64 n,.int .i64 0,.int .i64 0] 127)) #[.slice none 0 0,.int .i64 0,.int .i64 0,.int .i64 0,.int .i64 0] 127).since (sA _ _)).since kz))
 have HE:=lH (fun W (kz:Since (((w.alloc (.cells #[.slice A m c,.int .i64 (k:Int),.int .i64 n,.int .i64 0,.int .i64 0] 127)).alloc (.cells #[.slice none 0 0,.int .i64 0,.int .i64 0,.int .i64 0,.int .i64 0] 127)).alloc (.cells #[.int .i64 0,.int .i64 0,.string ⟨#[]⟩,.slice none 0 0] 45)) W)=>(Bx.new kz (by simp):Bx W (w.heap.size+1+1) #[.int .i64 0,.int .i64 0,.string ⟨#[]⟩,.slice none 0 0] 45))
 have sz1:(w.alloc (.cells #[.slice A m c,.int .i64 (k:Int),.int .i64 n,.int .i64 0,.int .i64 0] 127)).heap.size=w.heap.size+1:=by simp
 simp only[sz1] at HZ
 clear sz1
 obtain⟨g0,g1,g2,g3,g4⟩:=bx5 (HX.out _ (Since.refl _))
 rw[eb] at I0
 cases hi:isW [91] (ts.drop k) with
 | true =>
  rw[hi] at I0
  have hlt:k<ts.length:=by
   apply Decidable.byContradiction; intro hn
   rw[drop_end (by omega)] at hi; cases hi
  have HEQ:=lH (show expr n (ts.drop k)=bnd list (fun l=>ret ⟨4,0,nos,l⟩) n (ts.drop (k+1)) from (if_pos hi).trans (by rw[List.tail_drop]))
  clear H hi eb
  obtain⟨kn,hkn⟩:∃ kn,kn=k+1:=⟨_,rfl⟩
  rw[← hkn] at NX HEQ
  have hlt2:kn≤ts.length:=by omega
  clear hkn
  cases hp:list n (ts.drop kn) with
  | ok l rr =>
   have LS:=lH (fun W (kk:Since w W)=>(LI.out kn W kk hlt2).mono (fun e w' h=>got_ok (hp ▸ h)))
   have HP:=lH hp
   clear hp
   go_enter Tryz.func144,Tryz.ntmps144
   go_wp2_with (first
  | (go_at_call 116; (with_reducible refine (I0.out _ HS.out).mono ?_); rintro e0 w1 ⟨rfl,h1⟩; obtain⟨g0,g1,g2,g3,g4⟩:=bx5 (HX.out _ h1))
  | (go_at_call 110; (with_reducible refine (NX.out _).mono ?_); rintro ee w2 ⟨rfl,h2⟩; have k2:=h1.trans h2)
  | (go_at_call 142; (with_reducible refine (LS.out _ (HS.out.trans k2)).mono ?_); rintro ee w3 ⟨k3,v,hr3,l3,hv,rfl,h3⟩; obtain⟨C,cc,rfl⟩:=hv.1.form; have hsz:=k2.size; have k3':=k2.trans h3; have ka:=k3'.trans (sA _ (.cells #[.slice A m c,.int .i64 (k3:Int),.int .i64 n,.int .i64 0,.int .i64 0] 127)); obtain⟨z0,z1,z2,z3,z4⟩:=bx5 (HZ.out _ ka); obtain⟨y0,y1,y2,y3,y4⟩:=bx5' (HZ.out _ ka); obtain⟨e0,e1,e2,e3⟩:=(HE.out _ ka).four; obtain⟨d0,d1,d2,d3⟩:=(HE.out _ ka).four'))
   refine bodyPost_ret (v:=.tuple #[.agg #[.slice A m c,.int .i64 (k3:Int),.int .i64 n,.int .i64 0,.int .i64 0],.agg #[.int .i64 4,.int .i64 0,.string ⟨#[]⟩,.slice C l.length cc]]) ?_ rfl ?_
   · simp[results,Tryz.results144,go_sem,z0,z1,z2,z3,z4,e0,e1,e2,e3]
   · simp at hsz
     have q1:=hv.1.since stP (sA w3 (.cells #[.slice A m c,.int .i64 (k3:Int),.int .i64 n,.int .i64 0,.int .i64 0] 127))
     have q2:Sl 4 QP _ _ l:=q1.kept (only_put5 _ (w.heap.size+1) (.slice A m c) (.int .i64 (k3:Int)) (.int .i64 n) (.int .i64 0) (.int .i64 0)) (fun b hb=>by injection hb with hb; subst hb; show _<w2.heap.size; omega) (fun x u h=>(by obtain⟨A9,c9,h9⟩:=h; exact⟨A9,c9,h9⟩)) hv.2
     have q3:Sl 4 QP _ _ l:=q2.kept (only_put4 _ (w.heap.size+1+1) (.int .i64 4) (.int .i64 0) (.string ⟨#[]⟩) (.slice C l.length cc)) (fun b hb=>by injection hb with hb; subst hb; show _<w2.heap.size; omega) (fun x u h=>(by obtain⟨A9,c9,h9⟩:=h; exact⟨A9,c9,h9⟩)) hv.2
     exact .inl ⟨⟨4,0,nos,l⟩,k3,_,HEQ.out.trans (by simp only[bnd,R.bind,HP.out,hr3]; rfl),l3,⟨_,rfl,_,rfl,q3,hv.2.mono (fun b hb=>by have:b<w.heap.size:=hb; show b<w2.heap.size; omega)⟩,rfl,since_put4 (since_put5 (HS.out.trans ka) (Nat.le_succ _) _ _ _ _ _) (Nat.le_succ_of_le (Nat.le_succ _)) _ _ _ _⟩
  | bad p x =>
   have LS:=lH (fun W (kk:Since w W)=>(LI.out kn W kk hlt2).mono (fun e w' h=>got_bad (hp ▸ h)))
   have HP:=lH hp
   clear hp
   go_enter Tryz.func144,Tryz.ntmps144
   go_wp2_with (first
  | (go_at_call 116; (with_reducible refine (I0.out _ HS.out).mono ?_); rintro e0 w1 ⟨rfl,h1⟩; obtain⟨g0,g1,g2,g3,g4⟩:=bx5 (HX.out _ h1))
  | (go_at_call 110; (with_reducible refine (NX.out _).mono ?_); rintro ee w2 ⟨rfl,h2⟩; have k2:=h1.trans h2)
  | (go_at_call 142; (with_reducible refine (LS.out _ (HS.out.trans k2)).mono ?_); rintro ee w3 ⟨i,at_,er,_,he,rfl,rfl,h3⟩; have k3':=k2.trans h3; have ka:=k3'.trans (sA _ (.cells #[.slice A m c,.int .i64 i,.int .i64 n,.int .i64 at_,.int .i64 er] 127)); obtain⟨z0,z1,z2,z3,z4⟩:=bx5 (HZ.out _ ka); obtain⟨y0,y1,y2,y3,y4⟩:=bx5' (HZ.out _ ka); obtain⟨e0,e1,e2,e3⟩:=(HE.out _ ka).four; obtain⟨d0,d1,d2,d3⟩:=(HE.out _ ka).four'))
   refine bodyPost_ret (v:=.tuple #[.agg #[.slice A m c,.int .i64 i,.int .i64 n,.int .i64 at_,.int .i64 er],.agg #[.int .i64 4,.int .i64 0,.string ⟨#[]⟩,.slice none 0 0]]) ?_ rfl ?_
   · simp[results,Tryz.results144,go_sem,z0,z1,z2,z3,z4,e0,e1,e2,e3]
   · exact .inr ⟨p,x,i,at_,er,_,HEQ.out.trans (by simp only[bnd,R.bind,HP.out]),he,⟨4,rfl⟩,rfl,since_put4 (since_put5 (HS.out.trans ka) (Nat.le_succ _) _ _ _ _ _) (Nat.le_succ_of_le (Nat.le_succ _)) _ _ _ _⟩
 | false =>
  rw[hi] at I0
  have HEQ:=lH (show expr n (ts.drop k)=bnd plain (fun p=>ret p.xp) n (ts.drop k) from if_neg (by rw[hi]; exact Bool.false_ne_true))
  clear H hi eb
  cases hp:plain n (ts.drop k) with
  | ok x rr =>
   have LS:=lH (fun W (kk:Since w W)=>(PL.out W kk).mono (fun e w' h=>got_ok (hp ▸ h)))
   have HP:=lH hp
   clear hp
   go_enter Tryz.func144,Tryz.ntmps144
   go_wp2_with (first
  | (go_at_call 116; (with_reducible refine (I0.out _ HS.out).mono ?_); rintro e0 w1 ⟨rfl,h1⟩; obtain⟨g0,g1,g2,g3,g4⟩:=bx5 (HX.out _ h1))
  | (go_at_call 138; (with_reducible refine (LS.out _ (HS.out.trans h1)).mono ?_); rintro ee w2 ⟨k3,_,hr3,l3,rfl,rfl,h2⟩; have k2:=h1.trans h2; obtain⟨z0,z1,z2,z3,z4⟩:=bx5 (HZ.out _ k2); obtain⟨y0,y1,y2,y3,y4⟩:=bx5' (HZ.out _ k2); obtain⟨e0,e1,e2,e3⟩:=(HE.out _ k2).four; obtain⟨d0,d1,d2,d3⟩:=(HE.out _ k2).four'))
   refine bodyPost_ret (v:=.tuple #[.agg #[.slice A m c,.int .i64 (k3:Int),.int .i64 n,.int .i64 0,.int .i64 0],.agg #[.int .i64 x.k,.int .i64 x.n,.string x.s,.slice none 0 0]]) ?_ rfl ?_
   · simp[results,Tryz.results144,go_sem,z0,z1,z2,z3,z4,e0,e1,e2,e3]
   · exact .inl ⟨x.xp,k3,_,HEQ.out.trans (by simp only[bnd,R.bind,HP.out,hr3]; rfl),l3,⟨_,rfl,_,rfl,Sl.nil _ _ _,faro_nil _⟩,rfl,since_put4 (since_put5 (HS.out.trans k2) (Nat.le_succ _) _ _ _ _ _) (Nat.le_succ_of_le (Nat.le_succ _)) _ _ _ _⟩
  | bad p x =>
   have LS:=lH (fun W (kk:Since w W)=>(PL.out W kk).mono (fun e w' h=>got_bad (hp ▸ h)))
   have HP:=lH hp
   clear hp
   go_enter Tryz.func144,Tryz.ntmps144
   go_wp2_with (first
  | (go_at_call 116; (with_reducible refine (I0.out _ HS.out).mono ?_); rintro e0 w1 ⟨rfl,h1⟩; obtain⟨g0,g1,g2,g3,g4⟩:=bx5 (HX.out _ h1))
  | (go_at_call 138; (with_reducible refine (LS.out _ (HS.out.trans h1)).mono ?_); rintro ee w2 ⟨i,at_,er,_,he,rfl,rfl,h2⟩; have k2:=h1.trans h2; obtain⟨z0,z1,z2,z3,z4⟩:=bx5 (HZ.out _ k2); obtain⟨y0,y1,y2,y3,y4⟩:=bx5' (HZ.out _ k2); obtain⟨e0,e1,e2,e3⟩:=(HE.out _ k2).four; obtain⟨d0,d1,d2,d3⟩:=(HE.out _ k2).four'))
   refine bodyPost_ret (v:=.tuple #[.agg #[.slice A m c,.int .i64 i,.int .i64 n,.int .i64 at_,.int .i64 er],.agg #[.int .i64 0,.int .i64 0,.string ⟨#[]⟩,.slice none 0 0]]) ?_ rfl ?_
   · simp[results,Tryz.results144,go_sem,z0,z1,z2,z3,z4,e0,e1,e2,e3]
   · exact .inr ⟨p,x,i,at_,er,_,HEQ.out.trans (by simp only[bnd,R.bind,HP.out]),he,⟨0,rfl⟩,rfl,since_put4 (since_put5 (HS.out.trans k2) (Nat.le_succ _) _ _ _ _ _) (Nat.le_succ_of_le (Nat.le_succ _)) _ _ _ _⟩
end Go.Proofs.YtjmmcnldfkjebaaGreatDoor.Doc6
end
section
namespace Go.Proofs.YtjmmcnldfkjebaaGreatDoor.Doc6
open Go.RowKit
open Dig Lx Tk Ps Ti
def Th {β:Type} (ts:List Tv) (n:Int) (F:R β) (q:P β) (i at_ er:Int):Prop:=
 (∃ k:Nat,F=q n (ts.drop k)∧k≤ts.length∧i=(k:Int)∧at_=0∧er=0)∨(∃ p x,F = .bad p x∧Ec er x)
theorem Th.start {β:Type} {ts:List Tv} {n:Int} {q:P β} {k:Nat} (hk:k≤ts.length):Th ts n (q n (ts.drop k)) q (k:Int) 0 0:=.inl ⟨k,rfl,hk,rfl,rfl,rfl⟩
theorem Th.got {β:Type} {ts:List Tv} {n:Int} {F:R β} {a:β} {i at_ er:Int} (h:Th ts n F (ret a) i at_ er) {V:World→β→Value→Prop} {Z:Value→Prop} {A:Option Addr} {m c:Nat} {w w':World} {v:Value} (hV:er=0→V w' a v) (hZ:Z v) (hs:Since w w') :
 Got V Z A m c n ts F w (.returned (.tuple #[.agg #[.slice A m c,.int .i64 i,.int .i64 n,.int .i64 at_,.int .i64 er],v])) w':=by
 rcases h with ⟨k,hF,hk,rfl,rfl,rfl⟩ | ⟨p,x,hF,he⟩
 · exact .inl ⟨a,k,v,hF,hk,hV rfl,rfl,hs⟩
 · exact .inr ⟨p,x,i,at_,er,v,hF,he,hZ,rfl,hs⟩
theorem Th.bad {β:Type} {ts:List Tv} {n:Int} {F:R β} {q:P β} {i at_ er:Int} (h:Th ts n F q i at_ er) (h0:er≠0):∃ p x,F = .bad p x∧Ec er x:=by
 rcases h with ⟨k,hF,hk,rfl,rfl,rfl⟩ | h
 · exact absurd rfl h0
 · exact h
theorem Th.good {β:Type} {ts:List Tv} {n:Int} {F:R β} {q:P β} {i at_ er:Int} (h:Th ts n F q i at_ er) (h0:er=0):∃ k:Nat,F=q n (ts.drop k)∧k≤ts.length∧i=(k:Int)∧at_=0:=by
 rcases h with ⟨k,hF,hk,e1,e2,e3⟩ | ⟨p,x,hF,he⟩
 · exact⟨k,hF,hk,e1,e2⟩
 · exact absurd h0 he.1
def IsB (ts:List Tv) (cl:Bs) (i at_ er:Int) (b:Bool):Prop:=(∃ k:Nat,k≤ts.length∧i=(k:Int)∧at_=0∧er=0∧b=isW cl (ts.drop k))∨(er≠0∧b=false)
theorem Th.yes {β:Type} {ts:List Tv} {n:Int} {F:R β} {p q:P β} {cl:Bs} {i at_ er:Int} (h:Th ts n F (alt cl p q) i at_ er) (hb:IsB ts cl i at_ er true):Th ts n F p (i+1) at_ er∧0≤i∧i≤ts.length∧er=0:=by
 rcases hb with ⟨k,hk,rfl,rfl,rfl,hb⟩ | ⟨-,hb⟩
 · obtain⟨k',hF,-,e1,-⟩:=h.good rfl
   obtain rfl:k=k':=by omega
   have hlt:k<ts.length:=by
    apply Decidable.byContradiction; intro hn
    rw[drop_end (by omega)] at hb; cases hb
   exact⟨.inl ⟨k+1,hF.trans ((if_pos hb.symm).trans (by rw[List.tail_drop])),hlt,by omega,rfl,rfl⟩,by omega,by omega,rfl⟩
 · cases hb
theorem Th.no {β:Type} {ts:List Tv} {n:Int} {F:R β} {p q:P β} {cl:Bs} {i at_ er:Int} (h:Th ts n F (alt cl p q) i at_ er) (hb:IsB ts cl i at_ er false):Th ts n F q i at_ er:=by
 rcases h with ⟨k,hF,hk,rfl,rfl,rfl⟩ | h
 · rcases hb with ⟨k',hk',e1,-,-,hb⟩ | ⟨hb,-⟩
   · obtain rfl:k=k':=by omega
     exact .inl ⟨k,hF.trans (if_neg (by rw[← hb]; exact Bool.false_ne_true)),hk,rfl,rfl,rfl⟩
   · exact absurd rfl hb
 · exact .inr h
theorem is_u (A:Option Addr) (m c:Nat) (n:Int) (ts:List Tv) (t:ByteArray) (cl:Bs) (ht:L t=cl) (hc:cl ≠ []) (w:World) (H:Toks w (.slice A m c) ts) {i at_ er:Int} (h:(∃ k:Nat,k≤ts.length∧i=(k:Int)∧at_=0∧er=0)∨er≠0) :
 Calls Tryz.prog 116 #[.agg #[.slice A m c,.int .i64 i,.int .i64 n,.int .i64 at_,.int .i64 er],.string t] w fun e w'=>∃ b,e = .returned (.bool b)∧IsB ts cl i at_ er b∧Since w w':=by
 subst ht
 rcases h with ⟨k,hk,rfl,rfl,rfl⟩ | h
 · refine (is_ok A m c n ts k t w H hc).mono ?_
   rintro e w' ⟨rfl,hs⟩
   exact⟨_,rfl,.inl ⟨k,hk,rfl,rfl,rfl,rfl⟩,hs⟩
 · refine (is_no A m c n i at_ er t w h hc).mono ?_
   rintro e w' ⟨rfl,hs⟩
   exact⟨_,rfl,.inr ⟨h,rfl⟩,hs⟩
theorem Th.st {β:Type} {ts:List Tv} {n:Int} {F:R β} {q:P β} {i at_ er:Int} (h:Th ts n F q i at_ er):(∃ k:Nat,k≤ts.length∧i=(k:Int)∧at_=0∧er=0)∨er≠0:=by
 rcases h with ⟨k,hF,hk,rfl,rfl,rfl⟩ | ⟨p,x,hF,he⟩
 · exact .inl ⟨k,hk,rfl,rfl,rfl⟩
 · exact .inr he.1
theorem take_u (A:Option Addr) (m c:Nat) (n:Int) (ts:List Tv) (t:ByteArray) (cl:Bs) (ht:L t=cl) (hc:cl ≠ []) (w:World) (H:Toks w (.slice A m c) ts) (hl:ts.length≤10000) {β:Type} {F:R β} {q:Unit→P β} {i at_ er:Int} (h:Th ts n F (bnd (take cl) q) i at_ er) :
 Calls Tryz.prog 77 #[.agg #[.slice A m c,.int .i64 i,.int .i64 n,.int .i64 at_,.int .i64 er],.string t] w fun e w'=>∃ i' at' er':Int,e = .returned (.agg #[.slice A m c,.int .i64 i',.int .i64 n,.int .i64 at',.int .i64 er'])∧Th ts n F (q ()) i' at' er'∧Since w w':=by
 rcases h with ⟨k,hF,hk,rfl,rfl,rfl⟩ | ⟨p,x,hF,he⟩
 · refine (take_ok A m c n ts k t w H hl hk (by rw[ht]; exact hc)).mono ?_
   rintro e w' (⟨k',h1,h2,rfl,hs⟩ | ⟨p,x,h1,i,at_,er,rfl,he,hs⟩)
   · exact⟨_,_,_,rfl,.inl ⟨k',hF.trans (by simp only[bnd,R.bind,← ht,h1]),h2,rfl,rfl,rfl⟩,hs⟩
   · exact⟨_,_,_,rfl,.inr ⟨p,x,hF.trans (by simp only[bnd,R.bind,← ht,h1]),he⟩,hs⟩
 · refine (take_no A m c n i at_ er t w he.1).mono ?_
   rintro e w' ⟨rfl,hs⟩
   exact⟨_,_,_,rfl,.inr ⟨p,x,hF,he⟩,hs⟩
theorem exact_u (A:Option Addr) (m c:Nat) (n:Int) (ts:List Tv) (x0:Int) (w:World) (H:Toks w (.slice A m c) ts) (hl:ts.length≤10000) {β:Type} {F:R β} {q:Unit→P β} {i at_ er:Int} (h:Th ts n F (bnd (exact x0) q) i at_ er) :
 Calls Tryz.prog 140 #[.agg #[.slice A m c,.int .i64 i,.int .i64 n,.int .i64 at_,.int .i64 er],.int .i64 x0] w fun e w'=>∃ i' at' er':Int,e = .returned (.agg #[.slice A m c,.int .i64 i',.int .i64 n,.int .i64 at',.int .i64 er'])∧Th ts n F (q ()) i' at' er'∧Since w w':=by
 rcases h with ⟨k,hF,hk,rfl,rfl,rfl⟩ | ⟨p,x,hF,he⟩
 · refine (exact_ok A m c n ts k x0 w H hl hk).mono ?_
   rintro e w' (⟨k',h1,h2,rfl,hs⟩ | ⟨p,x,h1,i,at_,er,rfl,he,hs⟩)
   · exact⟨_,_,_,rfl,.inl ⟨k',hF.trans (by simp only[bnd,R.bind,h1]),h2,rfl,rfl,rfl⟩,hs⟩
   · exact⟨_,_,_,rfl,.inr ⟨p,x,hF.trans (by simp only[bnd,R.bind,h1]),he⟩,hs⟩
 · refine (exact_no A m c n i at_ er x0 w he.1).mono ?_
   rintro e w' ⟨rfl,hs⟩
   exact⟨_,_,_,rfl,.inr ⟨p,x,hF,he⟩,hs⟩
theorem name_u (A:Option Addr) (m c:Nat) (n:Int) (ts:List Tv) (w:World) (H:Toks w (.slice A m c) ts) (hl:ts.length≤10000) {β:Type} {F:R β} {q:ByteArray→P β} {i at_ er:Int} (h:Th ts n F (bnd name q) i at_ er) :
 Calls Tryz.prog 112 #[.agg #[.slice A m c,.int .i64 i,.int .i64 n,.int .i64 at_,.int .i64 er]] w fun e w'=>∃ (i' at' er':Int) (a:ByteArray),e = .returned (.tuple #[.agg #[.slice A m c,.int .i64 i',.int .i64 n,.int .i64 at',.int .i64 er'],.string a])∧Th ts n F (q a) i' at' er'∧Since w w':=by
 rcases h with ⟨k,hF,hk,rfl,rfl,rfl⟩ | ⟨p,x,hF,he⟩
 · refine (name_ok A m c n ts k w H hl hk).mono ?_
   rintro e w' (⟨a,k',v,h1,h2,rfl,rfl,hs⟩ | ⟨p,x,i,at_,er,v,h1,he,rfl,rfl,hs⟩)
   · exact⟨_,_,_,a,rfl,.inl ⟨k',hF.trans (by simp only[bnd,R.bind,h1]),h2,rfl,rfl,rfl⟩,hs⟩
   · exact⟨_,_,_,nos,rfl,.inr ⟨p,x,hF.trans (by simp only[bnd,R.bind,h1]),he⟩,hs⟩
 · refine (name_no A m c n i at_ er w he.1).mono ?_
   rintro e w' ⟨rfl,hs⟩
   exact⟨_,_,_,nos,rfl,.inr ⟨p,x,hF,he⟩,hs⟩
theorem integer_u (A:Option Addr) (m c:Nat) (n:Int) (ts:List Tv) (w:World) (H:Toks w (.slice A m c) ts) (hl:ts.length≤10000) {β:Type} {F:R β} {q:Int→P β} {i at_ er:Int} (h:Th ts n F (bnd integer q) i at_ er) :
 Calls Tryz.prog 141 #[.agg #[.slice A m c,.int .i64 i,.int .i64 n,.int .i64 at_,.int .i64 er]] w fun e w'=>∃ (i' at' er':Int) (a:Int),e = .returned (.tuple #[.agg #[.slice A m c,.int .i64 i',.int .i64 n,.int .i64 at',.int .i64 er'],.int .i64 a])∧Th ts n F (q a) i' at' er'∧Since w w':=by
 rcases h with ⟨k,hF,hk,rfl,rfl,rfl⟩ | ⟨p,x,hF,he⟩
 · refine (integer_ok A m c n ts k w H hl hk).mono ?_
   rintro e w' (⟨a,k',v,h1,h2,rfl,rfl,hs⟩ | ⟨p,x,i,at_,er,v,h1,he,rfl,rfl,hs⟩)
   · exact⟨_,_,_,a,rfl,.inl ⟨k',hF.trans (by simp only[bnd,R.bind,h1]),h2,rfl,rfl,rfl⟩,hs⟩
   · exact⟨_,_,_,0,rfl,.inr ⟨p,x,hF.trans (by simp only[bnd,R.bind,h1]),he⟩,hs⟩
 · refine (integer_no A m c n i at_ er w he.1).mono ?_
   rintro e w' ⟨rfl,hs⟩
   exact⟨_,_,_,0,rfl,.inr ⟨p,x,hF,he⟩,hs⟩
theorem kind_u (A:Option Addr) (m c:Nat) (n:Int) (ts:List Tv) (w:World) (H:Toks w (.slice A m c) ts) (hl:ts.length≤10000) {β:Type} {F:R β} {q:Bool→P β} {i at_ er:Int} (h:Th ts n F (bnd kind q) i at_ er) :
 Calls Tryz.prog 136 #[.agg #[.slice A m c,.int .i64 i,.int .i64 n,.int .i64 at_,.int .i64 er]] w fun e w'=>∃ (i' at' er':Int) (a:Bool),e = .returned (.tuple #[.agg #[.slice A m c,.int .i64 i',.int .i64 n,.int .i64 at',.int .i64 er'],.bool a])∧Th ts n F (q a) i' at' er'∧Since w w':=by
 rcases h with ⟨k,hF,hk,rfl,rfl,rfl⟩ | ⟨p,x,hF,he⟩
 · refine (kind_ok A m c n ts k w H hl hk).mono ?_
   rintro e w' (⟨a,k',v,h1,h2,rfl,rfl,hs⟩ | ⟨p,x,i,at_,er,v,h1,he,rfl,rfl,hs⟩)
   · exact⟨_,_,_,a,rfl,.inl ⟨k',hF.trans (by simp only[bnd,R.bind,h1]),h2,rfl,rfl,rfl⟩,hs⟩
   · exact⟨_,_,_,false,rfl,.inr ⟨p,x,hF.trans (by simp only[bnd,R.bind,h1]),he⟩,hs⟩
 · refine (kind_no A m c n i at_ er w he.1).mono ?_
   rintro e w' ⟨rfl,hs⟩
   exact⟨_,_,_,false,rfl,.inr ⟨p,x,hF,he⟩,hs⟩
theorem plain_u (A:Option Addr) (m c:Nat) (n:Int) (ts:List Tv) (w:World) (H:Toks w (.slice A m c) ts) (hl:ts.length≤10000) {β:Type} {F:R β} {q:Pl→P β} {i at_ er:Int} (h:Th ts n F (bnd plain q) i at_ er) :
 Calls Tryz.prog 138 #[.agg #[.slice A m c,.int .i64 i,.int .i64 n,.int .i64 at_,.int .i64 er]] w fun e w'=>∃ (i' at' er':Int) (a:Pl),e = .returned (.tuple #[.agg #[.slice A m c,.int .i64 i',.int .i64 n,.int .i64 at',.int .i64 er'],.agg #[.int .i64 a.k,.int .i64 a.n,.string a.s,.slice none 0 0]])∧Th ts n F (q a) i' at' er'∧Since w w':=by
 rcases h with ⟨k,hF,hk,rfl,rfl,rfl⟩ | ⟨p,x,hF,he⟩
 · refine (plain_ok A m c n ts k w H hl hk).mono ?_
   rintro e w' (⟨a,k',v,h1,h2,rfl,rfl,hs⟩ | ⟨p,x,i,at_,er,v,h1,he,rfl,rfl,hs⟩)
   · exact⟨_,_,_,a,rfl,.inl ⟨k',hF.trans (by simp only[bnd,R.bind,h1]),h2,rfl,rfl,rfl⟩,hs⟩
   · exact⟨_,_,_,⟨0,0,nos⟩,rfl,.inr ⟨p,x,hF.trans (by simp only[bnd,R.bind,h1]),he⟩,hs⟩
 · refine (plain_no A m c n i at_ er w he.1).mono ?_
   rintro e w' ⟨rfl,hs⟩
   exact⟨_,_,_,⟨0,0,nos⟩,rfl,.inr ⟨p,x,hF,he⟩,hs⟩
end Go.Proofs.YtjmmcnldfkjebaaGreatDoor.Doc6
end
