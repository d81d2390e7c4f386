/- The document's own parser: plain expressions, whole. -/
import Derived.Test.YtjmmcnldfkjebaaGreatDoorQai
set_option maxHeartbeats 2000000
set_option maxRecDepth 20000
namespace Go.Proofs.YtjmmcnldfkjebaaGreatDoor.Doc6
open Go.RowKit
set_option linter.unusedVariables false
set_option linter.unusedSimpArgs false
open Dig Lx Tk Ps Ti
theorem plain_num (A:Option Addr) (m c:Nat) (n:Int) (ts:List Tv) (k:Nat) (w:World) (H:Toks w (.slice A m c) ts) (hl:k≤10000) (hk:k<m) (h1:numB ts k=true) :
 Calls Tryz.prog 138 #[.agg #[.slice A m c,.int .i64 (k:Int),.int .i64 n,.int .i64 0,.int .i64 0]] w fun e w'=>e = .returned (.tuple #[.agg #[.slice A m c,.int .i64 ((k+1:Nat):Int),.int .i64 n,.int .i64 0,.int .i64 0],.agg #[.int .i64 1,.int .i64 (ts.getD k .nil).v,.string ⟨#[]⟩,.slice none 0 0]])∧Since w w':=by
 have TN:=lH (fun W (kk:Since w W)=>number_ok A m c n ts k W (H.since kk))
 rw[h1] at TN
 have NX:=lH (fun W (kk:Since w W)=>next_ok A m c n k W hl)
 obtain⟨bb,oo,rfl,TK0⟩:=tok_at H hk
 obtain⟨t,ht⟩:∃ t,t=ts.getD k .nil:=⟨_,rfl⟩
 rw[← ht] at TK0
 have TK:=lH TK0
 have HTT:=lH ht
 clear TK0 ht H
 rw[← HTT.out]
 have hold:=lH (fun W (kz:Since (w.alloc (.cells #[.slice (some ⟨bb,oo,none⟩) m c,.int .i64 (k:Int),.int .i64 n,.int .i64 0,.int .i64 0] 127)) W)=>(by have Q:=bx5 ((Bx.fresh w #[.slice (some ⟨bb,oo,none⟩) m c,.int .i64 (k:Int),.int .i64 n,.int .i64 0,.int .i64 0] 127).since kz); have U:=TK.out W ((sA _ _).trans kz); exact⟨Q.1,Q.2.1,Q.2.2.1,Q.2.2.2.1,Q.2.2.2.2,U.2.2.1⟩:W.cell? ⟨w.heap.size,0,none⟩=some (.slice (some ⟨bb,oo,none⟩) m c)∧W.cell? ⟨w.heap.size,1,none⟩=some (.int .i64 (k:Int))∧W.cell? ⟨w.heap.size,2,none⟩=some (.int .i64 n)∧W.cell? ⟨w.heap.size,3,none⟩=some (.int .i64 0)∧W.cell? ⟨w.heap.size,4,none⟩=some (.int .i64 0)∧W.cell? ⟨bb,oo+k*4+2,none⟩=some (.int .i64 t.v)))
 have h5:=lH (fun W u0 u1 u2 u3 u4 (kz:Since (w.alloc (.cells #[.slice (some ⟨bb,oo,none⟩) m c,.int .i64 (k:Int),.int .i64 n,.int .i64 0,.int .i64 0] 127)) W)=>hold.out _ (since_put5 (b:=w.heap.size+1) kz (by simp) u0 u1 u2 u3 u4))
 have h9:=lH (fun W u0 u1 u2 u3 u4 v0 v1 v2 v3 (kz:Since (w.alloc (.cells #[.slice (some ⟨bb,oo,none⟩) m c,.int .i64 (k:Int),.int .i64 n,.int .i64 0,.int .i64 0] 127)) W)=>hold.out _ (since_put4 (b:=w.heap.size+1+1) (since_put5 (b:=w.heap.size+1) kz (by simp) u0 u1 u2 u3 u4) (by simp) v0 v1 v2 v3))
 have HS:=lH (show Since w (((w.alloc (.cells #[.slice (some ⟨bb,oo,none⟩) m c,.int .i64 (k:Int),.int .i64 n,.int .i64 0,.int .i64 0] 127)).alloc (.cells #[.slice none 0 0,.int .i64 0,.int .i64 0,.int .i64 0,.int .i64 0] 127)).alloc (.cells #[.int .i64 0,.int .i64 0,.string ⟨#[]⟩,.slice none 0 0] 45)) from ((sA _ _).trans (sA _ _)).trans (sA _ _))
 have HX:=lH (fun W (kz:Since (((w.alloc (.cells #[.slice (some ⟨bb,oo,none⟩) m c,.int .i64 (k:Int),.int .i64 n,.int .i64 0,.int .i64 0] 127)).alloc (.cells #[.slice none 0 0,.int .i64 0,.int .i64 0,.int .i64 0,.int .i64 0] 127)).alloc (.cells #[.int .i64 0,.int .i64 0,.string ⟨#[]⟩,.slice none 0 0] 45)) W)=>(((Bx.fresh w #[.slice (some ⟨bb,oo,none⟩) m c,.int .i64 (k:Int),.int .i64 n,.int .i64 0,.int .i64 0] 127).since (sA _ _)).since (sA _ _)).since kz)
 have HZ:=lH (fun W (kz:Since (((w.alloc (.cells #[.slice (some ⟨bb,oo,none⟩) m c,.int .i64 (k:Int),.int .i64 n,.int .i64 0,.int .i64 0] 127)).alloc (.cells #[.slice none 0 0,.int .i64 0,.int .i64 0,.int .i64 0,.int .i64 0] 127)).alloc (.cells #[.int .i64 0,.int .i64 0,.string ⟨#[]⟩,.slice none 0 0] 45)) W)=>(((Bx.fresh (w.alloc (.cells #[.slice (some ⟨bb,oo,none⟩) m c,.int .i64 (k:Int),.int .i64 n,.int .i64 0,.int .i64 0] 127)) #[.slice none 0 0,.int .i64 0,.int .i64 0,.int .i64 0,.int .i64 0] 127).since (sA _ _)).since kz))
 have HE:=lH (fun W (kz:Since (((w.alloc (.cells #[.slice (some ⟨bb,oo,none⟩) m c,.int .i64 (k:Int),.int .i64 n,.int .i64 0,.int .i64 0] 127)).alloc (.cells #[.slice none 0 0,.int .i64 0,.int .i64 0,.int .i64 0,.int .i64 0] 127)).alloc (.cells #[.int .i64 0,.int .i64 0,.string ⟨#[]⟩,.slice none 0 0] 45)) W)=>(Bx.new kz (by simp):Bx W (w.heap.size+1+1) #[.int .i64 0,.int .i64 0,.string ⟨#[]⟩,.slice none 0 0] 45))
 have sz1:(w.alloc (.cells #[.slice (some ⟨bb,oo,none⟩) m c,.int .i64 (k:Int),.int .i64 n,.int .i64 0,.int .i64 0] 127)).heap.size=w.heap.size+1:=by simp
 simp only[sz1] at HZ
 clear sz1
 obtain⟨g0,g1,g2,g3,g4⟩:=bx5 (HX.out _ (Since.refl _))
 have HA:=lH (show Since (w.alloc (.cells #[.slice (some ⟨bb,oo,none⟩) m c,.int .i64 (k:Int),.int .i64 n,.int .i64 0,.int .i64 0] 127)) (((w.alloc (.cells #[.slice (some ⟨bb,oo,none⟩) m c,.int .i64 (k:Int),.int .i64 n,.int .i64 0,.int .i64 0] 127)).alloc (.cells #[.slice none 0 0,.int .i64 0,.int .i64 0,.int .i64 0,.int .i64 0] 127)).alloc (.cells #[.int .i64 0,.int .i64 0,.string ⟨#[]⟩,.slice none 0 0] 45)) from (sA _ _).trans (sA _ _))
 clear hl h1
 go_enter Tryz.func138,Tryz.ntmps138
 go_wp2_with (first
  | (go_at_call 137; (with_reducible refine (TN.out _ (HS.out.trans (Since.refl _))).mono ?_); rintro e0 w1 ⟨rfl,h1⟩; have k1:=(Since.refl _).trans h1; obtain⟨g0,g1,g2,g3,g4⟩:=bx5 (HX.out _ k1)))
 have kb:=HA.out.trans k1
 clear g0 g1 g2 g3 g4
 go_region_held3 (fun W=>W.cell? ⟨w.heap.size,0,none⟩=some (.slice (some ⟨bb,oo,none⟩) m c)∧W.cell? ⟨w.heap.size,1,none⟩=some (.int .i64 (k:Int))∧W.cell? ⟨w.heap.size,2,none⟩=some (.int .i64 n)∧W.cell? ⟨w.heap.size,3,none⟩=some (.int .i64 0)∧W.cell? ⟨w.heap.size,4,none⟩=some (.int .i64 0)∧W.cell? ⟨bb,oo+k*4+2,none⟩=some (.int .i64 t.v))
  (first | with_reducible exact h9.out _ _ _ _ _ _ _ _ _ _ (kb.trans kd) | with_reducible exact h5.out _ _ _ _ _ _ (kb.trans kd) | with_reducible exact hold.out _ (kb.trans kd) | with_reducible exact hold.out _ (kb.trans (Since.drew (Since.refl _))))
  (first
   | (go_at_call 110; (with_reducible refine (NX.out _ (HS.out.trans (k1.trans (Since.drew (Since.refl _))))).mono ?_); rintro e0 wn ⟨rfl,hn⟩; have kd:Since w1 wn:=(Since.drew (Since.refl _)).trans hn; have kn:=k1.trans kd; obtain⟨z0,z1,z2,z3,z4⟩:=bx5 (HZ.out _ kn); obtain⟨y0,y1,y2,y3,y4⟩:=bx5' (HZ.out _ kn); obtain⟨e0,e1,e2,e3⟩:=(HE.out _ kn).four; obtain⟨d0,d1,d2,d3⟩:=(HE.out _ kn).four'))
 all_goals go_wp2
 refine bodyPost_ret (v:=.tuple #[.agg #[.slice (some ⟨bb,oo,none⟩) m c,.int .i64 ((k+1:Nat):Int),.int .i64 n,.int .i64 0,.int .i64 0],.agg #[.int .i64 1,.int .i64 t.v,.string ⟨#[]⟩,.slice none 0 0]]) ?_ rfl ?_
 · simp[results,Tryz.results138,go_sem,z0,z1,z2,z3,z4,e0,e1,e2,e3]
 · exact⟨rfl,since_put4 (since_put5 (HS.out.trans kn) (Nat.le_succ _) _ _ _ _ _) (Nat.le_succ_of_le (Nat.le_succ _)) _ _ _ _⟩
theorem plain_name (A:Option Addr) (m c:Nat) (n:Int) (ts:List Tv) (k:Nat) (w:World) (H:Toks w (.slice A m c) ts) (hl:k≤10000) (hk:k<m) (h1:numB ts k=false) (h2:isW (L ⟨#[116,114,117,101]⟩) (ts.drop k)=false) (h3:isW (L ⟨#[102,97,108,115,101]⟩) (ts.drop k)=false) (h4:namB ts k=true) :
 Calls Tryz.prog 138 #[.agg #[.slice A m c,.int .i64 (k:Int),.int .i64 n,.int .i64 0,.int .i64 0]] w fun e w'=>e = .returned (.tuple #[.agg #[.slice A m c,.int .i64 ((k+1:Nat):Int),.int .i64 n,.int .i64 0,.int .i64 0],.agg #[.int .i64 3,.int .i64 0,.string (ts.getD k .nil).s,.slice none 0 0]])∧Since w w':=by
 have TN:=lH (fun W (kk:Since w W)=>number_ok A m c n ts k W (H.since kk))
 rw[h1] at TN
 have TT:=lH (fun W (kk:Since w W)=>is_ok A m c n ts k ⟨#[116,114,117,101]⟩ W (H.since kk) (by decide))
 rw[h2] at TT
 have TF:=lH (fun W (kk:Since w W)=>is_ok A m c n ts k ⟨#[102,97,108,115,101]⟩ W (H.since kk) (by decide))
 rw[h3] at TF
 have TD:=lH (fun W (kk:Since w W)=>named_ok A m c n ts k W (H.since kk))
 rw[h4] at TD
 have NX:=lH (fun W (kk:Since w W)=>next_ok A m c n k W hl)
 obtain⟨bb,oo,rfl,TK0⟩:=tok_at H hk
 obtain⟨t,ht⟩:∃ t,t=ts.getD k .nil:=⟨_,rfl⟩
 rw[← ht] at TK0
 have TK:=lH TK0
 have HTT:=lH ht
 clear TK0 ht H
 rw[← HTT.out]
 have hold:=lH (fun W (kz:Since (w.alloc (.cells #[.slice (some ⟨bb,oo,none⟩) m c,.int .i64 (k:Int),.int .i64 n,.int .i64 0,.int .i64 0] 127)) W)=>(by have Q:=bx5 ((Bx.fresh w #[.slice (some ⟨bb,oo,none⟩) m c,.int .i64 (k:Int),.int .i64 n,.int .i64 0,.int .i64 0] 127).since kz); have U:=TK.out W ((sA _ _).trans kz); exact⟨Q.1,Q.2.1,Q.2.2.1,Q.2.2.2.1,Q.2.2.2.2,U.2.1⟩:W.cell? ⟨w.heap.size,0,none⟩=some (.slice (some ⟨bb,oo,none⟩) m c)∧W.cell? ⟨w.heap.size,1,none⟩=some (.int .i64 (k:Int))∧W.cell? ⟨w.heap.size,2,none⟩=some (.int .i64 n)∧W.cell? ⟨w.heap.size,3,none⟩=some (.int .i64 0)∧W.cell? ⟨w.heap.size,4,none⟩=some (.int .i64 0)∧W.cell? ⟨bb,oo+k*4+1,none⟩=some (.string t.s)))
 have h5:=lH (fun W u0 u1 u2 u3 u4 (kz:Since (w.alloc (.cells #[.slice (some ⟨bb,oo,none⟩) m c,.int .i64 (k:Int),.int .i64 n,.int .i64 0,.int .i64 0] 127)) W)=>hold.out _ (since_put5 (b:=w.heap.size+1) kz (by simp) u0 u1 u2 u3 u4))
 have h9:=lH (fun W u0 u1 u2 u3 u4 v0 v1 v2 v3 (kz:Since (w.alloc (.cells #[.slice (some ⟨bb,oo,none⟩) m c,.int .i64 (k:Int),.int .i64 n,.int .i64 0,.int .i64 0] 127)) W)=>hold.out _ (since_put4 (b:=w.heap.size+1+1) (since_put5 (b:=w.heap.size+1) kz (by simp) u0 u1 u2 u3 u4) (by simp) v0 v1 v2 v3))
 have HS:=lH (show Since w (((w.alloc (.cells #[.slice (some ⟨bb,oo,none⟩) m c,.int .i64 (k:Int),.int .i64 n,.int .i64 0,.int .i64 0] 127)).alloc (.cells #[.slice none 0 0,.int .i64 0,.int .i64 0,.int .i64 0,.int .i64 0] 127)).alloc (.cells #[.int .i64 0,.int .i64 0,.string ⟨#[]⟩,.slice none 0 0] 45)) from ((sA _ _).trans (sA _ _)).trans (sA _ _))
 have HX:=lH (fun W (kz:Since (((w.alloc (.cells #[.slice (some ⟨bb,oo,none⟩) m c,.int .i64 (k:Int),.int .i64 n,.int .i64 0,.int .i64 0] 127)).alloc (.cells #[.slice none 0 0,.int .i64 0,.int .i64 0,.int .i64 0,.int .i64 0] 127)).alloc (.cells #[.int .i64 0,.int .i64 0,.string ⟨#[]⟩,.slice none 0 0] 45)) W)=>(((Bx.fresh w #[.slice (some ⟨bb,oo,none⟩) m c,.int .i64 (k:Int),.int .i64 n,.int .i64 0,.int .i64 0] 127).since (sA _ _)).since (sA _ _)).since kz)
 have HZ:=lH (fun W (kz:Since (((w.alloc (.cells #[.slice (some ⟨bb,oo,none⟩) m c,.int .i64 (k:Int),.int .i64 n,.int .i64 0,.int .i64 0] 127)).alloc (.cells #[.slice none 0 0,.int .i64 0,.int .i64 0,.int .i64 0,.int .i64 0] 127)).alloc (.cells #[.int .i64 0,.int .i64 0,.string ⟨#[]⟩,.slice none 0 0] 45)) W)=>(((Bx.fresh (w.alloc (.cells #[.slice (some ⟨bb,oo,none⟩) m c,.int .i64 (k:Int),.int .i64 n,.int .i64 0,.int .i64 0] 127)) #[.slice none 0 0,.int .i64 0,.int .i64 0,.int .i64 0,.int .i64 0] 127).since (sA _ _)).since kz))
 have HE:=lH (fun W (kz:Since (((w.alloc (.cells #[.slice (some ⟨bb,oo,none⟩) m c,.int .i64 (k:Int),.int .i64 n,.int .i64 0,.int .i64 0] 127)).alloc (.cells #[.slice none 0 0,.int .i64 0,.int .i64 0,.int .i64 0,.int .i64 0] 127)).alloc (.cells #[.int .i64 0,.int .i64 0,.string ⟨#[]⟩,.slice none 0 0] 45)) W)=>(Bx.new kz (by simp):Bx W (w.heap.size+1+1) #[.int .i64 0,.int .i64 0,.string ⟨#[]⟩,.slice none 0 0] 45))
 have sz1:(w.alloc (.cells #[.slice (some ⟨bb,oo,none⟩) m c,.int .i64 (k:Int),.int .i64 n,.int .i64 0,.int .i64 0] 127)).heap.size=w.heap.size+1:=by simp
 simp only[sz1] at HZ
 clear sz1
 obtain⟨g0,g1,g2,g3,g4⟩:=bx5 (HX.out _ (Since.refl _))
 have HA:=lH (show Since (w.alloc (.cells #[.slice (some ⟨bb,oo,none⟩) m c,.int .i64 (k:Int),.int .i64 n,.int .i64 0,.int .i64 0] 127)) (((w.alloc (.cells #[.slice (some ⟨bb,oo,none⟩) m c,.int .i64 (k:Int),.int .i64 n,.int .i64 0,.int .i64 0] 127)).alloc (.cells #[.slice none 0 0,.int .i64 0,.int .i64 0,.int .i64 0,.int .i64 0] 127)).alloc (.cells #[.int .i64 0,.int .i64 0,.string ⟨#[]⟩,.slice none 0 0] 45)) from (sA _ _).trans (sA _ _))
 clear hl h1 h2 h3 h4
 go_enter Tryz.func138,Tryz.ntmps138
 go_wp2_with (first
  | (go_at_call 137; (with_reducible refine (TN.out _ (HS.out.trans (Since.refl _))).mono ?_); rintro e0 w1 ⟨rfl,h1⟩; have k1:=(Since.refl _).trans h1; obtain⟨g0,g1,g2,g3,g4⟩:=bx5 (HX.out _ k1))
  | (go_at_call 116; (with_reducible refine (TT.out _ (HS.out.trans k1)).mono ?_); rintro e0 w2 ⟨rfl,h2⟩; have k2:=k1.trans h2; obtain⟨g0,g1,g2,g3,g4⟩:=bx5 (HX.out _ k2))
  | (go_at_call 116; (with_reducible refine (TF.out _ (HS.out.trans k2)).mono ?_); rintro e0 w3 ⟨rfl,h3⟩; have k3:=k2.trans h3; obtain⟨g0,g1,g2,g3,g4⟩:=bx5 (HX.out _ k3))
  | (go_at_call 143; (with_reducible refine (TD.out _ (HS.out.trans k3)).mono ?_); rintro e0 w4 ⟨rfl,h4⟩; have k4:=k3.trans h4; obtain⟨g0,g1,g2,g3,g4⟩:=bx5 (HX.out _ k4)))
 have kb:=HA.out.trans k4
 clear g0 g1 g2 g3 g4
 go_region_held3 (fun W=>W.cell? ⟨w.heap.size,0,none⟩=some (.slice (some ⟨bb,oo,none⟩) m c)∧W.cell? ⟨w.heap.size,1,none⟩=some (.int .i64 (k:Int))∧W.cell? ⟨w.heap.size,2,none⟩=some (.int .i64 n)∧W.cell? ⟨w.heap.size,3,none⟩=some (.int .i64 0)∧W.cell? ⟨w.heap.size,4,none⟩=some (.int .i64 0)∧W.cell? ⟨bb,oo+k*4+1,none⟩=some (.string t.s))
  (first | with_reducible exact h9.out _ _ _ _ _ _ _ _ _ _ (kb.trans kd) | with_reducible exact h5.out _ _ _ _ _ _ (kb.trans kd) | with_reducible exact hold.out _ (kb.trans kd) | with_reducible exact hold.out _ (kb.trans (Since.drew (Since.refl _))))
  (first
   | (go_at_call 110; (with_reducible refine (NX.out _ (HS.out.trans (k4.trans (Since.drew (Since.refl _))))).mono ?_); rintro e0 wn ⟨rfl,hn⟩; have kd:Since w4 wn:=(Since.drew (Since.refl _)).trans hn; have kn:=k4.trans kd; obtain⟨z0,z1,z2,z3,z4⟩:=bx5 (HZ.out _ kn); obtain⟨y0,y1,y2,y3,y4⟩:=bx5' (HZ.out _ kn); obtain⟨e0,e1,e2,e3⟩:=(HE.out _ kn).four; obtain⟨d0,d1,d2,d3⟩:=(HE.out _ kn).four'))
 all_goals go_wp2
 refine bodyPost_ret (v:=.tuple #[.agg #[.slice (some ⟨bb,oo,none⟩) m c,.int .i64 ((k+1:Nat):Int),.int .i64 n,.int .i64 0,.int .i64 0],.agg #[.int .i64 3,.int .i64 0,.string t.s,.slice none 0 0]]) ?_ rfl ?_
 · simp[results,Tryz.results138,go_sem,z0,z1,z2,z3,z4,e0,e1,e2,e3]
 · exact⟨rfl,since_put4 (since_put5 (HS.out.trans kn) (Nat.le_succ _) _ _ _ _ _) (Nat.le_succ_of_le (Nat.le_succ _)) _ _ _ _⟩
abbrev VP:World→Pl→Value→Prop:=fun _ p v=>v = .agg #[.int .i64 p.k,.int .i64 p.n,.string p.s,.slice none 0 0]
abbrev ZP:Value:=.agg #[.int .i64 0,.int .i64 0,.string ⟨#[]⟩,.slice none 0 0]
theorem plain_ok (A:Option Addr) (m c:Nat) (n:Int) (ts:List Tv) (k:Nat) (w:World) (H:Toks w (.slice A m c) ts) (hl:ts.length≤10000) (hk:k≤ts.length) :
 Calls Tryz.prog 138 #[.agg #[.slice A m c,.int .i64 (k:Int),.int .i64 n,.int .i64 0,.int .i64 0]] w (Got VP (fun v=>v=ZP) A m c n ts (plain n (ts.drop k)) w):=by
 have hm:=H.at_.1
 have hlt:∀ {c:Bs},isW c (ts.drop k)=true→k<ts.length:=fun h=>by
  apply Decidable.byContradiction; intro hn
  rw[drop_end (by omega)] at h; cases h
 have hw:∀ {c:Bs} (h:k<ts.length),isW c (ts.drop k)=(L (ts.getD k .nil).s == c):=fun h=>by rw[drop_tok h]; rfl
 cases h1:numB ts k with
 | true =>
  obtain⟨-,a1,a2⟩:=(num_drop (n:=n)).1 h1
  refine (plain_num A m c n ts k w H (by omega) (by omega) h1).mono ?_
  rintro e w' ⟨rfl,hs⟩
  refine .inl ⟨⟨1,(ts.getD k .nil).v,nos⟩,k+1,_,?_,a1,rfl,rfl,hs⟩
  rw[drop_tok a1]
  exact if_pos a2
 | false =>
  have n2:k<ts.length→¬ (ts.getD k .nil).k=2:=fun h e=>by
   rw[numB,decide_eq_true h,Bool.true_and,decide_eq_false_iff_not] at h1
   exact h1 e
  cases h2:isW (L ⟨#[116,114,117,101]⟩) (ts.drop k) with
  | true =>
   have a1:=hlt h2
   rw[hw a1,beq_iff_eq] at h2
   refine (plain_true A m c n ts k w H (by omega) h1 (by rw[hw a1,beq_iff_eq]; exact h2)).mono ?_
   rintro e w' ⟨rfl,hs⟩
   refine .inl ⟨⟨2,1,nos⟩,k+1,_,?_,a1,rfl,rfl,hs⟩
   rw[drop_tok a1]
   exact (if_neg (n2 a1)).trans (if_pos h2)
  | false =>
   cases h3:isW (L ⟨#[102,97,108,115,101]⟩) (ts.drop k) with
   | true =>
    have a1:=hlt h3
    have h2':=h2
    rw[hw a1,beq_eq_false_iff_ne] at h2'
    have h3':=h3
    rw[hw a1,beq_iff_eq] at h3'
    refine (plain_false A m c n ts k w H (by omega) h1 h2 h3).mono ?_
    rintro e w' ⟨rfl,hs⟩
    refine .inl ⟨⟨2,0,nos⟩,k+1,_,?_,a1,rfl,rfl,hs⟩
    rw[drop_tok a1]
    exact (if_neg (n2 a1)).trans ((if_neg h2').trans (if_pos h3'))
   | false =>
    cases h4:namB ts k with
    | true =>
     obtain⟨-,a1⟩:=(nam_drop (n:=n)).1 h4
     have h4':=h4
     rw[namB,decide_eq_true a1,Bool.true_and] at h4'
     have h2':=h2
     rw[hw a1,beq_eq_false_iff_ne] at h2'
     have h3':=h3
     rw[hw a1,beq_eq_false_iff_ne] at h3'
     refine (plain_name A m c n ts k w H (by omega) (by omega) h1 h2 h3 h4).mono ?_
     rintro e w' ⟨rfl,hs⟩
     refine .inl ⟨⟨3,0,(ts.getD k .nil).s⟩,k+1,_,?_,a1,rfl,rfl,hs⟩
     rw[drop_tok a1]
     exact (if_neg (n2 a1)).trans ((if_neg h2').trans ((if_neg h3').trans (if_pos h4')))
    | false =>
     refine (plain_bad A m c n ts k w H h1 h2 h3 h4).mono ?_
     rintro e w' ⟨i,at_,er,rfl,he,hs⟩
     refine .inr ⟨place n (ts.drop k),if ts.drop k = [] then 6 else 5,i,at_,er,_,?_,he,rfl,rfl,hs⟩
     rcases Nat.lt_or_ge k ts.length with h | h
     · have h4':=h4
       rw[namB,decide_eq_true h,Bool.true_and] at h4'
       rw[hw h,beq_eq_false_iff_ne] at h2 h3
       rw[drop_tok h]
       exact (if_neg (n2 h)).trans ((if_neg h2).trans ((if_neg h3).trans (if_neg (by rw[h4']; exact Bool.false_ne_true))))
     · rw[drop_end h]; rfl
end Go.Proofs.YtjmmcnldfkjebaaGreatDoor.Doc6
