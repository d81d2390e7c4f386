/- What a page's domain gives back. What a page's variable and request give back. What a page's array and item gi -/
import Derived.Lib.ItoaLen
import Derived.Test.YtjmmcnldfkjebaaGreatDoorKa
namespace Go.Proofs.YtjmmcnldfkjebaaGreatDoor.Pge
open Go.RowKit
set_option linter.unusedVariables false
set_option linter.unusedSimpArgs false
open Dig Lx Tk Ps Ti Sh
set_option maxRecDepth 20000 in
set_option maxHeartbeats 4000000 in
theorem domain_one {w0:World} {b:Nat} (ht:TabIn w0) (A:Option Addr) (c:Nat) (z:Int × Int) (h:Sl 2 QR w0 (.slice A 1 c) [z]) (hb:BdR z) (st:Option ByteArray) (w:World) (hp:Pg w0.heap.size b st w) (hs:Since w0 w) :
 Calls Tryz.prog 92 #[.pointer (some ⟨b,0,none⟩),.slice A 1 c] w (RetE w0 b (put st (domB [z])) w):=by
 obtain⟨bb,o,rfl,g0,g1⟩:=elR h (i:=0) Nat.zero_lt_one
 simp only[List.getElem_cons_zero,Nat.zero_mul,Nat.add_zero] at g0 g1
 obtain⟨lo,hi⟩:=z
 have up:∀ {p:Addr} {u:Value},w0.cell? p=some u→w.cell? p=some u:=fun g=>(hs.cell _ (World.block_lt_of_cell? _ _ g)).trans g
 have c0:=up g0
 have c1:=up g1
 have up2:=lH (fun W (k:Since w W)=>(⟨(k.cell _ (World.block_lt_of_cell? _ _ c0)).trans c0,(k.cell _ (World.block_lt_of_cell? _ _ c1)).trans c1⟩:W.cell? ⟨bb,o,none⟩=some (.int .i64 lo)∧W.cell? ⟨bb,o+1,none⟩=some (.int .i64 hi)))
 have e:put st (domB [(lo,hi)])=put st (itoaB lo++(⟨#[46,46]⟩++itoaB hi)):=by
  rw[show domB [(lo,hi)]=itoaB lo++⟨#[46,46]⟩++itoaB hi from rfl,ByteArray.append_assoc]
 rw[e]
 have HP:=lH hp
 have HS:=lH hs
 have NL:=lH (fun W (k:Since w0 W)=>number_any lo hb.1 W (ht.since k))
 have NH:=lH (fun W (k:Since w0 W)=>number_any hi hb.2 W (ht.since k))
 have kd:=lH (show Since w w.drew from Since.drew (Since.refl w))
 have d0:=(up2.out _ kd.out).1
 have d1:=(up2.out _ kd.out).2
 clear h hb ht up g0 g1 hp hs e
 go_enter Tryz.func92,Tryz.ntmps92
 go_wp2
 go_region_with (first
  | (go_at_call 93; (with_reducible refine (NL.out _ (HS.out.trans kd.out)).mono ?_); rintro e w1 ⟨rfl,h1⟩; have k1:=kd.out.trans h1; have e0:=(up2.out _ k1).1; have e1:=(up2.out _ k1).2)
  | (go_at_call 93; (with_reducible refine (NH.out _ (HS.out.trans k1)).mono ?_); rintro e w2 ⟨rfl,h2⟩; have k2:=k1.trans h2; have p2:=HP.out.since k2; have s2:=HS.out.trans k2)
  | (go_at_call 11; (with_reducible refine (write3 _ _ _ p2 s2 (by simp)).mono ?_); rintro e w3 ⟨rfl,p3,s3,q3⟩))
 all_goals (go_wp2; go_end0; exact⟨rfl,p3,s3,(Keeps.of k2).trans q3⟩)
theorem domB_many {d:List (Int × Int)} (h:d.length≠1):domB d=⟨#[123]⟩++rowB (fun z=>itoaB z.1) 0 d++⟨#[125]⟩:=by
 match d,h with
 | [],_=>rfl
 | [z],h=>exact absurd rfl h
 | x :: y :: r,_=>rfl
set_option maxRecDepth 20000 in
set_option maxHeartbeats 4000000 in
theorem domain_many {w0:World} {b:Nat} (ht:TabIn w0) (v:Value) (d:List (Int × Int)) (h:Sl 2 QR w0 v d) (hb:∀ z ∈ d,BdR z) (hd:d.length≤10000) (h1:d.length≠1) (st:Option ByteArray) (w:World) (hp:Pg w0.heap.size b st w) (hs:Since w0 w) :
 Calls Tryz.prog 92 #[.pointer (some ⟨b,0,none⟩),v] w (RetE w0 b (put st (domB d)) w):=by
 have e:put st (domB d)=put (put (put st ⟨#[123]⟩) (rowB (fun z=>itoaB z.1) 0 d)) ⟨#[125]⟩:=by rw[put_put,put_put,domB_many h1,ByteArray.append_assoc]
 rw[e]
 have H:=lH h
 have HB:=lH hb
 obtain⟨A0,c0,rfl⟩:=h.form
 obtain⟨n,hnn⟩:∃ n,n=d.length:=⟨_,rfl⟩
 rw[← hnn] at H hd h1 ⊢
 have HN:=lH hnn
 have HT:=lH ht
 have hz:((n:Int) == 1)=false:=by rw[beq_eq_false_iff_ne]; omega
 clear h hb hnn ht e
 go_enter Tryz.func92,Tryz.ntmps92
 go_wp2_with (go_at_call 11; (with_reducible refine (write1 _ hp hs (by simp)).mono ?_); rintro e w1 ⟨rfl,p1,s1,q1⟩)
 have HP1:=lH p1
 have HS1:=lH s1
 have hlt1:=p1.lt
 clear p1 s1
 go_loopw [27] (fun i wr=>∃ k:Nat,i = .int .i64 (k:Int)∧k≤n∧Hid (Pg w0.heap.size b (put (put st ⟨#[123]⟩) (rowB (fun z:Int × Int=>itoaB z.1) 0 (d.take k))) wr)∧Hid (Since w0 wr)∧Hid (Keeps 5 b w1 wr)∧b<wr.heap.size) (fun i _=>n - (intOf i).toNat)
 case atStart=>exact⟨0,rfl,Nat.zero_le _,by rw[List.take_zero]; exact (put_nos HP1.out.okp (s:=rowB _ 0 []) rfl).symm ▸ HP1.out,HS1.out,Keeps.refl _ _ _,hlt1⟩
 case round =>
  obtain⟨k,rfl,hk,HPk,HSk,HKk,hltk⟩:=hrel
  by_cases hkn:k<n
  · have hkl:k<d.length:=by have:=HN.out; omega
    obtain⟨bb,o,rfl,g0,g1⟩:=elR H.out hkl
    have hst:=rowB_take (fun z:Int × Int=>itoaB z.1) hkl
    have hbz:=HB.out d[k] (List.getElem_mem hkl)
    obtain⟨x,hx⟩:∃ x,x=d[k]:=⟨_,rfl⟩
    rw[← hx] at hst hbz g0 g1
    obtain⟨lo,hi⟩:=x
    simp only at hst hbz g0 g1
    have up:∀ {p:Addr} {u:Value},w0.cell? p=some u→wr.cell? p=some u:=fun g=>(HSk.out.cell _ (World.block_lt_of_cell? _ _ g)).trans g
    have c0:=up g0
    have c1:=up g1
    have HST:=lH hst
    have ka:=lH (sA wr (.cells #[.int .i64 lo,.int .i64 hi] 39))
    have GB:=lH (Bx.fresh wr #[.int .i64 lo,.int .i64 hi] 39)
    have SP:=lH (fun W=>separator_any k W)
    have NL:=lH (fun W (k:Since w0 W)=>number_any lo hbz.1 W (HT.out.since k))
    have p1:=HPk.out.since ka.out
    have s1:=HSk.out.trans ka.out
    have hcell1:=full_cell p1
    clear hst hx up hbz
    obtain⟨sk,hsk⟩:∃ sk,sk=put (put st ⟨#[123]⟩) (rowB (fun z:Int × Int=>itoaB z.1) 0 (d.take k)):=⟨_,rfl⟩
    rw[← hsk] at p1 hcell1 HPk
    have HSK:=lH hsk
    clear hsk
    cases sk with
    | none =>
     simp only[Option.isNone_none] at hcell1
     go_wp2
     go_end0
     refine⟨rfl,?_,s1,q1.trans (HKk.out.trans (Keeps.of ka.out))⟩
     have:put (put st ⟨#[123]⟩) (rowB (fun z=>itoaB z.1) 0 d)=none:=by
      obtain⟨r,hr⟩:=rowB_split (fun z:Int × Int=>itoaB z.1) d k
      rw[hr,← put_put,← HSK.out]; rfl
     rw[this]
     exact p1
    | some t =>
     simp only[Option.isNone_some] at hcell1
     have kd:=lH (show Since wr (wr.alloc (.cells #[.int .i64 lo,.int .i64 hi] 39)).drew from Since.drew ka.out)
     obtain⟨r0,r1⟩:=(GB.out.since (show Since _ (wr.alloc (.cells #[.int .i64 lo,.int .i64 hi] 39)).drew from Since.drew (Since.refl _))).two
     go_wp2
     go_region_with (first
      | (go_at_call 90; (with_reducible refine (SP.out _).mono ?_); rintro e w2 ⟨rfl,rfl⟩)
      | (go_at_call 93; (with_reducible refine (NL.out _ (HSk.out.trans kd.out)).mono ?_); rintro e w2 ⟨rfl,h2⟩; have k2:=kd.out.trans h2; have p2:=HPk.out.since k2; have s2:=HSk.out.trans k2)
      | (go_at_call 11; (with_reducible refine (write2 _ _ p2 s2 (by simp)).mono ?_); rintro e w3 ⟨rfl,p3,s3,q3⟩))
     all_goals go_wp2
     all_goals go_roundw
     all_goals try (simp[intOf]; omega)
     all_goals (
      refine⟨k+1,by go_num,by omega,?_,s3,HKk.out.trans ((Keeps.of k2).trans q3),p3.lt⟩
      rw[HST.out,← put_put,← HSK.out]
      exact p3)
  · obtain rfl:k=n:=by omega
    have e:d.take k=d:=List.take_of_length_le (by have:=HN.out; omega)
    rw[e] at HPk
    clear e
    go_wp2_with (go_at_call 11; (with_reducible refine (write1 _ HPk.out HSk.out (by simp)).mono ?_); rintro e w4 ⟨rfl,p4,s4,q4⟩)
    go_end0
    exact⟨rfl,p4,s4,q1.trans (HKk.out.trans q4)⟩
theorem domain_any {w0:World} {b:Nat} (ht:TabIn w0) (v:Value) (d:List (Int × Int)) (h:Sl 2 QR w0 v d) (hb:∀ z ∈ d,BdR z) (hd:d.length≤10000) (st:Option ByteArray) (w:World) (hp:Pg w0.heap.size b st w) (hs:Since w0 w) :
 Calls Tryz.prog 92 #[.pointer (some ⟨b,0,none⟩),v] w (RetE w0 b (put st (domB d)) w):=by
 by_cases h1:d.length=1
 · match d,h1 with
   | [z],_ =>
    obtain⟨A,c,rfl⟩:=h.form
    exact domain_one ht A c z h (hb z (by simp)) st w hp hs
 · exact domain_many ht v d h hb hd h1 st w hp hs
end Go.Proofs.YtjmmcnldfkjebaaGreatDoor.Pge
namespace Go.Proofs.YtjmmcnldfkjebaaGreatDoor.Pge
open Go.RowKit
set_option linter.unusedVariables false
set_option linter.unusedSimpArgs false
open Dig Lx Tk Ps Ti Sh
theorem bx8 {W:World} {g:Nat} {z0 z1 z2 z3 z4 z5 z6 z7:Value} {t:TypeId} (h:Bx W g #[z0,z1,z2,z3,z4,z5,z6,z7] t) :
 W.cell? ⟨g,0,none⟩=some z0∧W.cell? ⟨g,1,none⟩=some z1∧W.cell? ⟨g,2,none⟩=some z2∧W.cell? ⟨g,3,none⟩=some z3∧W.cell? ⟨g,4,none⟩=some z4∧W.cell? ⟨g,5,none⟩=some z5∧W.cell? ⟨g,6,none⟩=some z6∧W.cell? ⟨g,7,none⟩=some z7:=
 ⟨h.cell 0,h.cell 1,h.cell 2,h.cell 3,h.cell 4,h.cell 5,h.cell 6,h.cell 7⟩
abbrev DomSays (w0:World) (b:Nat) (v:Value) (l:ByteArray):Prop:=∀ (st:Option ByteArray) (w:World),Pg w0.heap.size b st w→Since w0 w→Calls Tryz.prog 92 #[.pointer (some ⟨b,0,none⟩),v] w (RetE w0 b (put st l) w)
def varW (nm:ByteArray) (bo ou:Bool) (D V:ByteArray) (m:Nat):ByteArray:=
 ⟨#[118,97,114,32]⟩++(if bo=true then ⟨#[98,111,111,108]⟩ else D)++(⟨#[58,32]⟩++nm)++(if ou=true then ⟨#[32,58,58,32,111,117,116,112,117,116,95,118,97,114]⟩ else ⟨#[]⟩) ++
  (if m=0 then ⟨#[]⟩ else ⟨#[32,61,32]⟩++V)
set_option maxRecDepth 20000 in
set_option maxHeartbeats 4000000 in
theorem variable_any {w0:World} {b:Nat} (ki:Int) (nm:ByteArray) (bo:Bool) (sz:Int) (ou:Bool) (ak:Int) (A1 A2:Option Addr) (p m c1 c2:Nat) (D V:ByteArray) (hD:bo=false→DomSays w0 b (.slice A1 p c1) D) (hV:ListSays w0 b (.slice A2 m c2) V) (st:Option ByteArray) (w:World) (hp:Pg w0.heap.size b st w) (hs:Since w0 w) :
 Calls Tryz.prog 61 #[.pointer (some ⟨b,0,none⟩),.agg #[.int .i64 ki,.string nm,.bool bo,.slice A1 p c1,.int .i64 sz,.bool ou,.slice A2 m c2,.int .i64 ak]] w (RetE w0 b (put st (varW nm bo ou D V m)) w):=by
 have hlt:=hp.lt
 have ka:=lH (sA w (.cells #[.int .i64 ki,.string nm,.bool bo,.slice A1 p c1,.int .i64 sz,.bool ou,.slice A2 m c2,.int .i64 ak] 42))
 have GB:=lH (Bx.fresh w #[.int .i64 ki,.string nm,.bool bo,.slice A1 p c1,.int .i64 sz,.bool ou,.slice A2 m c2,.int .i64 ak] 42)
 obtain⟨W,hW⟩:∃ W,W=w.alloc (.cells #[.int .i64 ki,.string nm,.bool bo,.slice A1 p c1,.int .i64 sz,.bool ou,.slice A2 m c2,.int .i64 ak] 42):=⟨_,rfl⟩
 have KK:=lH (Keeps.of (T:=5) (b:=b) ka.out)
 have hp:=hp.since ka.out
 have hs:=hs.trans ka.out
 have kk:=Keeps.refl 5 b (w.alloc (.cells #[.int .i64 ki,.string nm,.bool bo,.slice A1 p c1,.int .i64 sz,.bool ou,.slice A2 m c2,.int .i64 ak] 42))
 clear hW W
 have EX:=lH hV
 clear hV
 cases bo with
 | true =>
  clear hD
  cases ou <;> rcases Nat.eq_zero_or_pos m with rfl | hm
  all_goals go_enter Tryz.func61,Tryz.ntmps61
  all_goals go_wp2_with (first
   | (go_at_call 11; (with_reducible refine (write1 _ hp hs (by simp)).mono ?_); rintro e wn ⟨rfl,hp,hs,q⟩; have kk:=kk.trans q; have gb:=kk.bx (by decide) (by omega) GB.out; obtain⟨g0,g1,g2,g3,g4,g5,g6,g7⟩:=bx8 gb)
   | (go_at_call 11; (with_reducible refine (write2 _ _ hp hs (by simp)).mono ?_); rintro e wn ⟨rfl,hp,hs,q⟩; have kk:=kk.trans q; have gb:=kk.bx (by decide) (by omega) GB.out; obtain⟨g0,g1,g2,g3,g4,g5,g6,g7⟩:=bx8 gb)
   | (go_at_call 60; (with_reducible refine (EX.out _ _ hp hs).mono ?_); rintro e wn ⟨rfl,hp,hs,q⟩; have kk:=kk.trans q; have gb:=kk.bx (by decide) (by omega) GB.out; obtain⟨g0,g1,g2,g3,g4,g5,g6,g7⟩:=bx8 gb))
  all_goals go_end0
  all_goals refine⟨rfl,Eq.mp (congrArg (fun s=>Pg w0.heap.size b s _) ?_) hp,hs,KK.out.trans kk⟩
  all_goals simp only[put_put]
  all_goals congr 1
  all_goals apply L_inj
  all_goals try have hm0:¬ m=0:=by omega
  all_goals simp[varW,L_append,L_lit, *]
 | false =>
  have DM:=lH (hD rfl)
  clear hD
  cases ou <;> rcases Nat.eq_zero_or_pos m with rfl | hm
  all_goals go_enter Tryz.func61,Tryz.ntmps61
  all_goals go_wp2_with (first
   | (go_at_call 11; (with_reducible refine (write1 _ hp hs (by simp)).mono ?_); rintro e wn ⟨rfl,hp,hs,q⟩; have kk:=kk.trans q; have gb:=kk.bx (by decide) (by omega) GB.out; obtain⟨g0,g1,g2,g3,g4,g5,g6,g7⟩:=bx8 gb)
   | (go_at_call 11; (with_reducible refine (write2 _ _ hp hs (by simp)).mono ?_); rintro e wn ⟨rfl,hp,hs,q⟩; have kk:=kk.trans q; have gb:=kk.bx (by decide) (by omega) GB.out; obtain⟨g0,g1,g2,g3,g4,g5,g6,g7⟩:=bx8 gb)
   | (go_at_call 60; (with_reducible refine (EX.out _ _ hp hs).mono ?_); rintro e wn ⟨rfl,hp,hs,q⟩; have kk:=kk.trans q; have gb:=kk.bx (by decide) (by omega) GB.out; obtain⟨g0,g1,g2,g3,g4,g5,g6,g7⟩:=bx8 gb)
   | (go_at_call 92; (with_reducible refine (DM.out _ _ hp hs).mono ?_); rintro e wn ⟨rfl,hp,hs,q⟩; have kk:=kk.trans q; have gb:=kk.bx (by decide) (by omega) GB.out; obtain⟨g0,g1,g2,g3,g4,g5,g6,g7⟩:=bx8 gb))
  all_goals go_end0
  all_goals refine⟨rfl,Eq.mp (congrArg (fun s=>Pg w0.heap.size b s _) ?_) hp,hs,KK.out.trans kk⟩
  all_goals simp only[put_put]
  all_goals congr 1
  all_goals apply L_inj
  all_goals try have hm0:¬ m=0:=by omega
  all_goals simp[varW,L_append,L_lit, *]
def askW (nm:ByteArray) (ak:Int):ByteArray:=
 ⟨#[115,111,108,118,101,32]⟩++(if ak=0 then ⟨#[115,97,116,105,115,102,121]⟩ else if ak=1 then ⟨#[109,105,110,105,109,105,122,101,32]⟩++nm else if ak=2 then ⟨#[109,97,120,105,109,105,122,101,32]⟩++nm else ⟨#[]⟩)
set_option maxRecDepth 20000 in
set_option maxHeartbeats 4000000 in
theorem request_any {w0:World} {b:Nat} (ki:Int) (nm:ByteArray) (bo:Bool) (sz:Int) (ou:Bool) (ak:Int) (A1 A2:Option Addr) (p m c1 c2:Nat) (st:Option ByteArray) (w:World) (hp:Pg w0.heap.size b st w) (hs:Since w0 w) :
 Calls Tryz.prog 63 #[.pointer (some ⟨b,0,none⟩),.agg #[.int .i64 ki,.string nm,.bool bo,.slice A1 p c1,.int .i64 sz,.bool ou,.slice A2 m c2,.int .i64 ak]] w (RetE w0 b (put st (askW nm ak)) w):=by
 have hlt:=hp.lt
 have ka:=lH (sA w (.cells #[.int .i64 ki,.string nm,.bool bo,.slice A1 p c1,.int .i64 sz,.bool ou,.slice A2 m c2,.int .i64 ak] 42))
 have GB:=lH (Bx.fresh w #[.int .i64 ki,.string nm,.bool bo,.slice A1 p c1,.int .i64 sz,.bool ou,.slice A2 m c2,.int .i64 ak] 42)
 obtain⟨W,hW⟩:∃ W,W=w.alloc (.cells #[.int .i64 ki,.string nm,.bool bo,.slice A1 p c1,.int .i64 sz,.bool ou,.slice A2 m c2,.int .i64 ak] 42):=⟨_,rfl⟩
 have KK:=lH (Keeps.of (T:=5) (b:=b) ka.out)
 have hp:=hp.since ka.out
 have hs:=hs.trans ka.out
 have kk:=Keeps.refl 5 b (w.alloc (.cells #[.int .i64 ki,.string nm,.bool bo,.slice A1 p c1,.int .i64 sz,.bool ou,.slice A2 m c2,.int .i64 ak] 42))
 clear hW W
 by_cases k0:ak=0
 · subst k0
   go_enter Tryz.func63,Tryz.ntmps63
   go_wp2_with (first
    | (go_at_call 11; (with_reducible refine (write1 _ hp hs (by simp)).mono ?_); rintro e wn ⟨rfl,hp,hs,q⟩; have kk:=kk.trans q; have gb:=kk.bx (by decide) (by omega) GB.out; obtain⟨g0,g1,g2,g3,g4,g5,g6,g7⟩:=bx8 gb)
    | (go_at_call 11; (with_reducible refine (write2 _ _ hp hs (by simp)).mono ?_); rintro e wn ⟨rfl,hp,hs,q⟩; have kk:=kk.trans q; have gb:=kk.bx (by decide) (by omega) GB.out; obtain⟨g0,g1,g2,g3,g4,g5,g6,g7⟩:=bx8 gb))
   go_end0
   refine⟨rfl,Eq.mp (congrArg (fun s=>Pg w0.heap.size b s _) ?_) hp,hs,KK.out.trans kk⟩
   all_goals try simp only[put_put]
   all_goals congr 1
   all_goals apply L_inj
   all_goals simp[askW,L_append,L_lit, *]
 have z0:(ak == 0)=false:=by rw[beq_eq_false_iff_ne]; exact k0
 by_cases k1:ak=1
 · subst k1
   go_enter Tryz.func63,Tryz.ntmps63
   go_wp2_with (first
    | (go_at_call 11; (with_reducible refine (write1 _ hp hs (by simp)).mono ?_); rintro e wn ⟨rfl,hp,hs,q⟩; have kk:=kk.trans q; have gb:=kk.bx (by decide) (by omega) GB.out; obtain⟨g0,g1,g2,g3,g4,g5,g6,g7⟩:=bx8 gb)
    | (go_at_call 11; (with_reducible refine (write2 _ _ hp hs (by simp)).mono ?_); rintro e wn ⟨rfl,hp,hs,q⟩; have kk:=kk.trans q; have gb:=kk.bx (by decide) (by omega) GB.out; obtain⟨g0,g1,g2,g3,g4,g5,g6,g7⟩:=bx8 gb))
   go_end0
   refine⟨rfl,Eq.mp (congrArg (fun s=>Pg w0.heap.size b s _) ?_) hp,hs,KK.out.trans kk⟩
   all_goals try simp only[put_put]
   all_goals congr 1
   all_goals apply L_inj
   all_goals simp[askW,L_append,L_lit, *]
 have z1:(ak == 1)=false:=by rw[beq_eq_false_iff_ne]; exact k1
 by_cases k2:ak=2
 · subst k2
   go_enter Tryz.func63,Tryz.ntmps63
   go_wp2_with (first
    | (go_at_call 11; (with_reducible refine (write1 _ hp hs (by simp)).mono ?_); rintro e wn ⟨rfl,hp,hs,q⟩; have kk:=kk.trans q; have gb:=kk.bx (by decide) (by omega) GB.out; obtain⟨g0,g1,g2,g3,g4,g5,g6,g7⟩:=bx8 gb)
    | (go_at_call 11; (with_reducible refine (write2 _ _ hp hs (by simp)).mono ?_); rintro e wn ⟨rfl,hp,hs,q⟩; have kk:=kk.trans q; have gb:=kk.bx (by decide) (by omega) GB.out; obtain⟨g0,g1,g2,g3,g4,g5,g6,g7⟩:=bx8 gb))
   go_end0
   refine⟨rfl,Eq.mp (congrArg (fun s=>Pg w0.heap.size b s _) ?_) hp,hs,KK.out.trans kk⟩
   all_goals try simp only[put_put]
   all_goals congr 1
   all_goals apply L_inj
   all_goals simp[askW,L_append,L_lit, *]
 have z2:(ak == 2)=false:=by rw[beq_eq_false_iff_ne]; exact k2
 go_enter Tryz.func63,Tryz.ntmps63
 go_wp2_with (first
  | (go_at_call 11; (with_reducible refine (write1 _ hp hs (by simp)).mono ?_); rintro e wn ⟨rfl,hp,hs,q⟩; have kk:=kk.trans q; have gb:=kk.bx (by decide) (by omega) GB.out; obtain⟨g0,g1,g2,g3,g4,g5,g6,g7⟩:=bx8 gb)
  | (go_at_call 11; (with_reducible refine (write2 _ _ hp hs (by simp)).mono ?_); rintro e wn ⟨rfl,hp,hs,q⟩; have kk:=kk.trans q; have gb:=kk.bx (by decide) (by omega) GB.out; obtain⟨g0,g1,g2,g3,g4,g5,g6,g7⟩:=bx8 gb))
 go_end0
 refine⟨rfl,Eq.mp (congrArg (fun s=>Pg w0.heap.size b s _) ?_) hp,hs,KK.out.trans kk⟩
 all_goals try simp only[put_put]
 all_goals congr 1
 all_goals apply L_inj
 all_goals simp[askW,L_append,L_lit, *]
end Go.Proofs.YtjmmcnldfkjebaaGreatDoor.Pge
namespace Go.Proofs.YtjmmcnldfkjebaaGreatDoor.Pge
open Go.RowKit
set_option linter.unusedVariables false
set_option linter.unusedSimpArgs false
open Dig Lx Tk Ps Ti Sh
def arrW (nm:ByteArray) (bo ou:Bool) (S V v:ByteArray):ByteArray:=
 (⟨#[97,114,114,97,121,32]⟩++(S++(⟨#[32,111,102,32]⟩++(v++(kindB bo++(⟨#[58,32]⟩++nm)))))) ++
  (if ou=true then ⟨#[32,58,58,32,111,117,116,112,117,116,95,97,114,114,97,121,40]⟩++(S++⟨#[41]⟩) else ⟨#[]⟩)++⟨#[32,61,32,91]⟩++V++⟨#[93]⟩
set_option maxRecDepth 20000 in
set_option maxHeartbeats 4000000 in
theorem array_any {w0:World} {b:Nat} (ki:Int) (nm:ByteArray) (bo:Bool) (sz:Int) (ou:Bool) (ak:Int) (A1 A2:Option Addr) (p m c1 c2:Nat) (v V:ByteArray) (hn:fits sz) (ht:TabIn w0) (hV:ListSays w0 b (.slice A2 m c2) V) (st:Option ByteArray) (w:World) (hp:Pg w0.heap.size b st w) (hs:Since w0 w) :
 Calls Tryz.prog 62 #[.pointer (some ⟨b,0,none⟩),.agg #[.int .i64 ki,.string nm,.bool bo,.slice A1 p c1,.int .i64 sz,.bool ou,.slice A2 m c2,.int .i64 ak],.string v] w (RetE w0 b (put st (arrW nm bo ou (spanB sz) V v)) w):=by
 have hlt:=hp.lt
 have ka:=lH (sA w (.cells #[.int .i64 ki,.string nm,.bool bo,.slice A1 p c1,.int .i64 sz,.bool ou,.slice A2 m c2,.int .i64 ak] 42))
 have GB:=lH (Bx.fresh w #[.int .i64 ki,.string nm,.bool bo,.slice A1 p c1,.int .i64 sz,.bool ou,.slice A2 m c2,.int .i64 ak] 42)
 obtain⟨W,hW⟩:∃ W,W=w.alloc (.cells #[.int .i64 ki,.string nm,.bool bo,.slice A1 p c1,.int .i64 sz,.bool ou,.slice A2 m c2,.int .i64 ak] 42):=⟨_,rfl⟩
 have KK:=lH (Keeps.of (T:=5) (b:=b) ka.out)
 have hp:=hp.since ka.out
 have hs:=hs.trans ka.out
 have kk:=Keeps.refl 5 b (w.alloc (.cells #[.int .i64 ki,.string nm,.bool bo,.slice A1 p c1,.int .i64 sz,.bool ou,.slice A2 m c2,.int .i64 ak] 42))
 clear hW W
 have EX:=lH hV
 have TN:=lH (fun W=>typeName_any bo W)
 have hlen:(itoaB sz).size≤21:=by
  rw[← L_len,L_itoa]
  exact Lib.itoa_length_le sz hn.1 (by have:=hn.2; omega)
 have NM:=lH (fun W (k:Since w0 W)=>number_any sz hn W (ht.since k))
 obtain⟨T,hT⟩:∃ T,T=itoaB sz:=⟨_,rfl⟩
 obtain⟨S,hS⟩:∃ S,S=spanB sz:=⟨_,rfl⟩
 have hST:S=⟨#[91,49,46,46]⟩++T++⟨#[93]⟩:=by rw[hS,hT]; rfl
 rw[← hT] at NM hlen
 rw[← hS]
 have HST:=lH hST
 have gg1:¬ (9223372036854775807<4+T.size):=by omega
 have gg2:¬ (9223372036854775807<4+T.size+1):=by omega
 clear hV hn ht hT hS hST
 cases ou
 all_goals obtain⟨g0,g1,g2,g3,g4,g5,g6,g7⟩:=bx8 GB.out
 all_goals go_enter Tryz.func62,Tryz.ntmps62
 all_goals go_wp2_with (go_at_call 93; (with_reducible refine (NM.out _ hs).mono ?_); rintro e wn ⟨rfl,h1⟩; have hp:=hp.since h1; have hs:=hs.trans h1; have kk:=Keeps.of (T:=5) (b:=b) h1; have gb:=GB.out.since h1; obtain⟨g0,g1,g2,g3,g4,g5,g6,g7⟩:=bx8 gb; obtain⟨d0,d1,d2,d3,d4,d5,d6,d7⟩:=bx8 (gb.since (show Since _ wn.drew from Since.drew (Since.refl _))))
 all_goals rw[← HST.out]
 all_goals go_region_with (first
  | (go_at_call 59; (with_reducible refine (TN.out _).mono ?_); rintro e wn ⟨rfl,rfl⟩)
  | (go_at_call 11; (with_reducible refine (write7d _ _ _ _ _ _ _ hp hs (by simp)).mono ?_); rintro e wn ⟨rfl,hp,hs,q⟩; have kk:=kk.trans q; have gb:=kk.bx (by decide) (by omega) GB.out; obtain⟨g0,g1,g2,g3,g4,g5,g6,g7⟩:=bx8 gb))
 all_goals go_wp2_with (first
  | (go_at_call 11; (with_reducible refine (write1 _ hp hs (by simp)).mono ?_); rintro e wn ⟨rfl,hp,hs,q⟩; have kk:=kk.trans q; have gb:=kk.bx (by decide) (by omega) GB.out; obtain⟨g0,g1,g2,g3,g4,g5,g6,g7⟩:=bx8 gb)
  | (go_at_call 11; (with_reducible refine (write3 _ _ _ hp hs (by simp)).mono ?_); rintro e wn ⟨rfl,hp,hs,q⟩; have kk:=kk.trans q; have gb:=kk.bx (by decide) (by omega) GB.out; obtain⟨g0,g1,g2,g3,g4,g5,g6,g7⟩:=bx8 gb)
  | (go_at_call 60; (with_reducible refine (EX.out _ _ hp hs).mono ?_); rintro e wn ⟨rfl,hp,hs,q⟩; have kk:=kk.trans q; have gb:=kk.bx (by decide) (by omega) GB.out; obtain⟨g0,g1,g2,g3,g4,g5,g6,g7⟩:=bx8 gb))
 all_goals go_end0
 all_goals refine⟨rfl,Eq.mp (congrArg (fun s=>Pg w0.heap.size b s _) ?_) hp,hs,KK.out.trans kk⟩
 all_goals simp only[put_put]
 all_goals congr 1
 all_goals apply L_inj
 all_goals simp[arrW,L_append,L_lit]
end Go.Proofs.YtjmmcnldfkjebaaGreatDoor.Pge
namespace Go.Proofs.YtjmmcnldfkjebaaGreatDoor.Pge
open Go.RowKit
set_option linter.unusedVariables false
set_option linter.unusedSimpArgs false
open Dig Lx Tk Ps Ti Sh
theorem var_W (ki:Int) (nm:ByteArray) (bo:Bool) (dm:List (Int × Int)) (sz:Int) (ou:Bool) (vs:List Xq) (ak:Int):varB ⟨ki,nm,bo,dm,sz,ou,vs,ak⟩=varW nm bo ou (domB dm) (rowB xqB 0 vs) vs.length:=by
 cases vs with
 | nil=>rfl
 | cons x r =>
  have e1:∀ a:ByteArray,(if x :: r = [] then (⟨#[]⟩:ByteArray) else a)=a:=fun a=>if_neg (by simp)
  have e2:∀ a:ByteArray,(if (x :: r).length=0 then (⟨#[]⟩:ByteArray) else a)=a:=fun a=>if_neg (by simp)
  simp only[varB,varW,e1,e2]
set_option maxRecDepth 20000 in
set_option maxHeartbeats 4000000 in
theorem item_any {w0:World} {b:Nat} (ki:Int) (nm:ByteArray) (bo:Bool) (sz:Int) (ou:Bool) (ak:Int) (A1 A2:Option Addr) (p m c1 c2:Nat) (dm:List (Int × Int)) (vs:List Xq) (hm:m=vs.length) (hn:fits sz) (ht:TabIn w0) (hD:DomSays w0 b (.slice A1 p c1) (domB dm)) (hV:ListSays w0 b (.slice A2 m c2) (rowB xqB 0 vs)) (st:Option ByteArray) (w:World) (hp:Pg w0.heap.size b st w) (hs:Since w0 w) :
 Calls Tryz.prog 30 #[.pointer (some ⟨b,0,none⟩),.agg #[.int .i64 ki,.string nm,.bool bo,.slice A1 p c1,.int .i64 sz,.bool ou,.slice A2 m c2,.int .i64 ak]] w (RetE w0 b (put st (itB ⟨ki,nm,bo,dm,sz,ou,vs,ak⟩)) w):=by
 have hvar:=var_W ki nm bo dm sz ou vs ak
 rw[← hm] at hvar
 have hlt:=hp.lt
 have ka:=lH (sA w (.cells #[.int .i64 ki,.string nm,.bool bo,.slice A1 p c1,.int .i64 sz,.bool ou,.slice A2 m c2,.int .i64 ak] 42))
 have GB:=lH (Bx.fresh w #[.int .i64 ki,.string nm,.bool bo,.slice A1 p c1,.int .i64 sz,.bool ou,.slice A2 m c2,.int .i64 ak] 42)
 obtain⟨W,hW⟩:∃ W,W=w.alloc (.cells #[.int .i64 ki,.string nm,.bool bo,.slice A1 p c1,.int .i64 sz,.bool ou,.slice A2 m c2,.int .i64 ak] 42):=⟨_,rfl⟩
 have KK:=lH (Keeps.of (T:=5) (b:=b) ka.out)
 have hp:=hp.since ka.out
 have hs:=hs.trans ka.out
 have kk:=Keeps.refl 5 b (w.alloc (.cells #[.int .i64 ki,.string nm,.bool bo,.slice A1 p c1,.int .i64 sz,.bool ou,.slice A2 m c2,.int .i64 ak] 42))
 clear hW W
 have EX:=lH hV
 have TN:=lH (fun W=>typeName_any bo W)
 have VA:=lH (variable_any (w0:=w0) (b:=b) ki nm bo sz ou ak A1 A2 p m c1 c2 (domB dm) (rowB xqB 0 vs) (fun _=>hD) hV)
 have AR:=lH (fun v=>array_any (w0:=w0) (b:=b) ki nm bo sz ou ak A1 A2 p m c1 c2 v (rowB xqB 0 vs) hn ht hV)
 have RQ:=lH (request_any (w0:=w0) (b:=b) ki nm bo sz ou ak A1 A2 p m c1 c2)
 rw[← hvar] at VA
 obtain⟨V,hVV⟩:∃ V,V=rowB xqB 0 vs:=⟨_,rfl⟩
 obtain⟨B,hBB⟩:∃ B,B=varB ⟨ki,nm,bo,dm,sz,ou,vs,ak⟩:=⟨_,rfl⟩
 obtain⟨Tx,hTX⟩:∃ Tx,Tx=itB ⟨ki,nm,bo,dm,sz,ou,vs,ak⟩:=⟨_,rfl⟩
 rw[← hVV] at EX AR
 rw[← hBB] at VA
 rw[← hTX]
 have HVV:=lH hVV
 have HBB:=lH hBB
 have HTX:=lH hTX
 clear hVV hBB hTX hvar hD hV hm hn ht
 obtain⟨g0,g1,g2,g3,g4,g5,g6,g7⟩:=bx8 GB.out
 by_cases k1:ki=1
 · subst k1
   obtain⟨d0,d1,d2,d3,d4,d5,d6,d7⟩:=bx8 (GB.out.since (show Since _ (w.alloc (.cells #[.int .i64 1,.string nm,.bool bo,.slice A1 p c1,.int .i64 sz,.bool ou,.slice A2 m c2,.int .i64 ak] 42)).drew from Since.drew (Since.refl _)))
   go_enter Tryz.func30,Tryz.ntmps30
   go_wp2
   go_region_with (first
    | (go_at_call 59; (with_reducible refine (TN.out _).mono ?_); rintro e wn ⟨rfl,rfl⟩)
    | (go_at_call 11; (with_reducible refine (write4d _ _ _ _ hp hs (by simp)).mono ?_); rintro e wn ⟨rfl,hp,hs,q⟩; have kk:=kk.trans q; have gb:=kk.bx (by decide) (by omega) GB.out; obtain⟨g0,g1,g2,g3,g4,g5,g6,g7⟩:=bx8 gb))
   all_goals go_wp2_with (first
    | (go_at_call 11; (with_reducible refine (write1 _ hp hs (by simp)).mono ?_); rintro e wn ⟨rfl,hp,hs,q⟩; have kk:=kk.trans q; have gb:=kk.bx (by decide) (by omega) GB.out; obtain⟨g0,g1,g2,g3,g4,g5,g6,g7⟩:=bx8 gb)
    | (go_at_call 60; (with_reducible refine (EX.out _ _ hp hs).mono ?_); rintro e wn ⟨rfl,hp,hs,q⟩; have kk:=kk.trans q; have gb:=kk.bx (by decide) (by omega) GB.out; obtain⟨g0,g1,g2,g3,g4,g5,g6,g7⟩:=bx8 gb))
   all_goals go_end0
   all_goals refine⟨rfl,Eq.mp (congrArg (fun s=>Pg w0.heap.size b s _) ?_) hp,hs,KK.out.trans kk⟩
   all_goals have eT:Tx=kindB bo++(⟨#[58,32]⟩++(nm++⟨#[32,61,32]⟩))++V++⟨#[59]⟩:=(by rw[HTX.out,HVV.out]; rfl)
   all_goals rw[eT]
   all_goals try simp only[put_put]
   all_goals congr 1
   all_goals try (apply L_inj; simp only[L_append,L_lit,kindB,arrB,arrW,askW,askB]; try simp)
 have z1:(ki == 1)=false:=by rw[beq_eq_false_iff_ne]; exact k1
 by_cases k2:ki=2
 · subst k2
   go_enter Tryz.func30,Tryz.ntmps30
   go_wp2_with (first
    | (go_at_call 11; (with_reducible refine (write1 _ hp hs (by simp)).mono ?_); rintro e wn ⟨rfl,hp,hs,q⟩; have kk:=kk.trans q; have gb:=kk.bx (by decide) (by omega) GB.out; obtain⟨g0,g1,g2,g3,g4,g5,g6,g7⟩:=bx8 gb)
    | (go_at_call 61; (with_reducible refine (VA.out _ _ hp hs).mono ?_); rintro e wn ⟨rfl,hp,hs,q⟩; have kk:=kk.trans q; have gb:=kk.bx (by decide) (by omega) GB.out; obtain⟨g0,g1,g2,g3,g4,g5,g6,g7⟩:=bx8 gb))
   all_goals go_end0
   all_goals refine⟨rfl,Eq.mp (congrArg (fun s=>Pg w0.heap.size b s _) ?_) hp,hs,KK.out.trans kk⟩
   all_goals have eT:Tx=B++⟨#[59]⟩:=(by rw[HTX.out,HBB.out]; rfl)
   all_goals rw[eT]
   all_goals try simp only[put_put]
   all_goals congr 1
   all_goals try (apply L_inj; simp only[L_append,L_lit,kindB,arrB,arrW,askW,askB]; try simp)
 have z2:(ki == 2)=false:=by rw[beq_eq_false_iff_ne]; exact k2
 by_cases k3:ki=3
 · subst k3
   go_enter Tryz.func30,Tryz.ntmps30
   go_wp2_with (first
    | (go_at_call 11; (with_reducible refine (write1 _ hp hs (by simp)).mono ?_); rintro e wn ⟨rfl,hp,hs,q⟩; have kk:=kk.trans q; have gb:=kk.bx (by decide) (by omega) GB.out; obtain⟨g0,g1,g2,g3,g4,g5,g6,g7⟩:=bx8 gb)
    | (go_at_call 62; (with_reducible refine (AR.out _ _ _ hp hs).mono ?_); rintro e wn ⟨rfl,hp,hs,q⟩; have kk:=kk.trans q; have gb:=kk.bx (by decide) (by omega) GB.out; obtain⟨g0,g1,g2,g3,g4,g5,g6,g7⟩:=bx8 gb))
   all_goals go_end0
   all_goals refine⟨rfl,Eq.mp (congrArg (fun s=>Pg w0.heap.size b s _) ?_) hp,hs,KK.out.trans kk⟩
   all_goals have eT:Tx=arrW nm bo ou (spanB sz) V ⟨#[]⟩++⟨#[59]⟩:=(by rw[HTX.out,HVV.out]; rfl)
   all_goals rw[eT]
   all_goals try simp only[put_put]
   all_goals congr 1
   all_goals try (apply L_inj; simp only[L_append,L_lit,kindB,arrB,arrW,askW,askB]; try simp)
 have z3:(ki == 3)=false:=by rw[beq_eq_false_iff_ne]; exact k3
 by_cases k4:ki=4
 · subst k4
   go_enter Tryz.func30,Tryz.ntmps30
   go_wp2_with (first
    | (go_at_call 11; (with_reducible refine (write1 _ hp hs (by simp)).mono ?_); rintro e wn ⟨rfl,hp,hs,q⟩; have kk:=kk.trans q; have gb:=kk.bx (by decide) (by omega) GB.out; obtain⟨g0,g1,g2,g3,g4,g5,g6,g7⟩:=bx8 gb)
    | (go_at_call 62; (with_reducible refine (AR.out _ _ _ hp hs).mono ?_); rintro e wn ⟨rfl,hp,hs,q⟩; have kk:=kk.trans q; have gb:=kk.bx (by decide) (by omega) GB.out; obtain⟨g0,g1,g2,g3,g4,g5,g6,g7⟩:=bx8 gb))
   all_goals go_end0
   all_goals refine⟨rfl,Eq.mp (congrArg (fun s=>Pg w0.heap.size b s _) ?_) hp,hs,KK.out.trans kk⟩
   all_goals have eT:Tx=arrW nm bo ou (spanB sz) V ⟨#[118,97,114,32]⟩++⟨#[59]⟩:=(by rw[HTX.out,HVV.out]; rfl)
   all_goals rw[eT]
   all_goals try simp only[put_put]
   all_goals congr 1
   all_goals try (apply L_inj; simp only[L_append,L_lit,kindB,arrB,arrW,askW,askB]; try simp)
 have z4:(ki == 4)=false:=by rw[beq_eq_false_iff_ne]; exact k4
 by_cases k5:ki=5
 · subst k5
   go_enter Tryz.func30,Tryz.ntmps30
   go_wp2_with (first
    | (go_at_call 11; (with_reducible refine (write1 _ hp hs (by simp)).mono ?_); rintro e wn ⟨rfl,hp,hs,q⟩; have kk:=kk.trans q; have gb:=kk.bx (by decide) (by omega) GB.out; obtain⟨g0,g1,g2,g3,g4,g5,g6,g7⟩:=bx8 gb)
    | (go_at_call 11; (with_reducible refine (write3 _ _ _ hp hs (by simp)).mono ?_); rintro e wn ⟨rfl,hp,hs,q⟩; have kk:=kk.trans q; have gb:=kk.bx (by decide) (by omega) GB.out; obtain⟨g0,g1,g2,g3,g4,g5,g6,g7⟩:=bx8 gb)
    | (go_at_call 60; (with_reducible refine (EX.out _ _ hp hs).mono ?_); rintro e wn ⟨rfl,hp,hs,q⟩; have kk:=kk.trans q; have gb:=kk.bx (by decide) (by omega) GB.out; obtain⟨g0,g1,g2,g3,g4,g5,g6,g7⟩:=bx8 gb))
   all_goals go_end0
   all_goals refine⟨rfl,Eq.mp (congrArg (fun s=>Pg w0.heap.size b s _) ?_) hp,hs,KK.out.trans kk⟩
   all_goals have eT:Tx=⟨#[99,111,110,115,116,114,97,105,110,116,32]⟩++(nm++⟨#[40]⟩)++V++⟨#[41]⟩++⟨#[59]⟩:=(by rw[HTX.out,HVV.out]; rfl)
   all_goals rw[eT]
   all_goals try simp only[put_put]
   all_goals congr 1
   all_goals try (apply L_inj; simp only[L_append,L_lit,kindB,arrB,arrW,askW,askB]; try simp)
 have z5:(ki == 5)=false:=by rw[beq_eq_false_iff_ne]; exact k5
 by_cases k6:ki=6
 · subst k6
   go_enter Tryz.func30,Tryz.ntmps30
   go_wp2_with (first
    | (go_at_call 11; (with_reducible refine (write1 _ hp hs (by simp)).mono ?_); rintro e wn ⟨rfl,hp,hs,q⟩; have kk:=kk.trans q; have gb:=kk.bx (by decide) (by omega) GB.out; obtain⟨g0,g1,g2,g3,g4,g5,g6,g7⟩:=bx8 gb)
    | (go_at_call 63; (with_reducible refine (RQ.out _ _ hp hs).mono ?_); rintro e wn ⟨rfl,hp,hs,q⟩; have kk:=kk.trans q; have gb:=kk.bx (by decide) (by omega) GB.out; obtain⟨g0,g1,g2,g3,g4,g5,g6,g7⟩:=bx8 gb))
   all_goals go_end0
   all_goals refine⟨rfl,Eq.mp (congrArg (fun s=>Pg w0.heap.size b s _) ?_) hp,hs,KK.out.trans kk⟩
   all_goals have eT:Tx=askW nm ak++⟨#[59]⟩:=(by rw[HTX.out]; rfl)
   all_goals rw[eT]
   all_goals try simp only[put_put]
   all_goals congr 1
   all_goals try (apply L_inj; simp only[L_append,L_lit,kindB,arrB,arrW,askW,askB]; try simp)
 have z6:(ki == 6)=false:=by rw[beq_eq_false_iff_ne]; exact k6
 go_enter Tryz.func30,Tryz.ntmps30
 go_wp2_with (first
  | (go_at_call 11; (with_reducible refine (write1 _ hp hs (by simp)).mono ?_); rintro e wn ⟨rfl,hp,hs,q⟩; have kk:=kk.trans q; have gb:=kk.bx (by decide) (by omega) GB.out; obtain⟨g0,g1,g2,g3,g4,g5,g6,g7⟩:=bx8 gb))
 all_goals go_end0
 all_goals refine⟨rfl,Eq.mp (congrArg (fun s=>Pg w0.heap.size b s _) ?_) hp,hs,KK.out.trans kk⟩
 have eT:Tx=⟨#[]⟩++⟨#[59]⟩:=by
  rw[HTX.out]
  simp only[itB,bodyB,if_neg k1,if_neg k2,if_neg k3,if_neg k4,if_neg k5,if_neg k6]
 rw[eT,nos_add]
end Go.Proofs.YtjmmcnldfkjebaaGreatDoor.Pge
