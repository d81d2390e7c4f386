/- The document's own layer 7: Right, Item and Text. The document's own layer 7: Item and Text. ShowBack, if Text -/
import Derived.Test.YtjmmcnldfkjebaaGreatDoorOa
import Derived.Test.YtjmmcnldfkjebaaGreatDoorQbp
import Derived.Test.YtjmmcnldfkjebaaGreatDoorKd
set_option maxHeartbeats 4000000
set_option maxRecDepth 100000
set_option linter.unusedVariables false
set_option linter.unusedSimpArgs false
section
namespace Go.Proofs.YtjmmcnldfkjebaaGreatDoor.Doc7
open Go.RowKit
open Dig Lx Tk Ps Ti Sh Law07
open Pge
theorem sz_lit (a:Array UInt8):(⟨a⟩:ByteArray).size=a.size:=rfl
theorem headR_size {x:Iq} (hb:BoJ x):(headR x).size≤100:=by
 have:=itoa_size hb.2.2.2.2.2
 unfold headR
 split <;> simp only[ByteArray.size_append,sz_lit,List.size_toArray,List.length_cons,List.length_nil] <;> omega
theorem varR_size {x:Iq} (hb:BoJ x):(varR x).size≤4000000000000:=by
 have h1:=domR_size (b:=x.bool) hb.2.1 hb.2.2.2.2.1
 have h2:=hb.1
 have h3:∀ v ∈ x.vals,(xR v).size≤10000:=fun v hv=>plainR_size (hb.2.2.2.1 v hv).2.2.2 (hb.2.2.2.1 v hv).1
 unfold varR frontR
 split
 · simp only[ByteArray.size_append,sz_lit,List.size_toArray,List.length_cons,List.length_nil]; omega
 · rename_i v r e1 e2
   have:=h3 v (by rw[e2]; simp)
   simp only[ByteArray.size_append,sz_lit,List.size_toArray,List.length_cons,List.length_nil]; omega
 · simp only[ByteArray.size_append,sz_lit,List.size_toArray,List.length_cons,List.length_nil]; omega
 · rename_i v r e1 e2
   have:=h3 v (by rw[e2]; simp)
   simp only[ByteArray.size_append,sz_lit,List.size_toArray,List.length_cons,List.length_nil]; omega
theorem textR_size {x:Iq} (hb:BoJ x):(textR x).size≤4000000000000:=by
 have h1:=headR_size hb
 have h2:=varR_size hb
 have h3:=listR_size hb
 have h4:=argsR_size hb
 have h5:=kindB_size x.bool
 have h6:=itoa_size hb.2.2.2.2.2
 have h7:=hb.1
 unfold textR
 split
 · simp only[ByteArray.size_append,sz_lit,List.size_toArray,List.length_cons,List.length_nil]; omega
 split
 · exact h2
 split
 · unfold arrR
   split <;> simp only[ByteArray.size_append,sz_lit,List.size_toArray,List.length_cons,List.length_nil] <;> omega
 split
 · simp only[ByteArray.size_append,sz_lit,List.size_toArray,List.length_cons,List.length_nil]; omega
 split
 · simp only[sz_lit,List.size_toArray,List.length_cons,List.length_nil]; omega
 split
 · simp only[ByteArray.size_append,sz_lit,List.size_toArray,List.length_cons,List.length_nil]; omega
 · simp only[ByteArray.size_append,sz_lit,List.size_toArray,List.length_cons,List.length_nil]; omega
theorem sl_item {W:World} {g:Nat} {x:Iq} {A1 A2:Option Addr} {c1 c2:Nat} {t:TypeId} (h:Bx W g #[.int .i64 x.kind,.string x.name,.bool x.bool,.slice A1 x.dom.length c1,.int .i64 x.size,.bool x.out,.slice A2 x.vals.length c2,.int .i64 x.ask] t)
 (hd:Sl 2 QR W (.slice A1 x.dom.length c1) x.dom) (hv:Sl 4 (QXq noG) W (.slice A2 x.vals.length c2) x.vals):Sl 8 (QIq noG) W (.slice (some ⟨g,0,none⟩) 1 1) [x]:=by
 refine⟨some ⟨g,0,none⟩,1,rfl,Nat.le_refl _,fun _=>⟨g,0,rfl,fun i y hy => ?_⟩⟩
 cases i with
 | succ i=>simp at hy
 | zero =>
  simp only[List.getElem?_cons_zero,Option.some.injEq] at hy
  subst hy
  obtain⟨g0,g1,g2,g3,g4,g5,g6,g7⟩:=bx8 h
  refine⟨_,⟨_,_,rfl,hd,fun _ _ _ _ _ _ h=>h,hv,fun _ _ _ _ _ _ h=>h⟩,rfl,fun j y hy => ?_⟩
  rcases j with _ | _ | _ | _ | _ | _ | _ | _ | j
  · simp at hy; subst hy; simpa using g0
  · simp at hy; subst hy; simpa using g1
  · simp at hy; subst hy; simpa using g2
  · simp at hy; subst hy; simpa using g3
  · simp at hy; subst hy; simpa using g4
  · simp at hy; subst hy; simpa using g5
  · simp at hy; subst hy; simpa using g6
  · simp at hy; subst hy; simpa using g7
  · simp at hy
theorem right_big (w:World) (ki:Int) (nm:ByteArray) (bo:Bool) (sz:Int) (ou:Bool) (ak:Int) (A1 A2:Option Addr) (p m c1 c2:Nat) (P:Prop) (hP:¬ P) (hb:64<m∨256<p) :
 Calls Tryz.prog 25 #[.agg #[.int .i64 ki,.string nm,.bool bo,.slice A1 p c1,.int .i64 sz,.bool ou,.slice A2 m c2,.int .i64 ak]] w (RetB P w):=by
 have HS:=lH (sA w (.cells #[.int .i64 ki,.string nm,.bool bo,.slice A1 p c1,.int .i64 sz,.bool ou,.slice A2 m c2,.int .i64 ak] 28))
 have HX:=lH (fun W (k:Since (w.alloc (.cells #[.int .i64 ki,.string nm,.bool bo,.slice A1 p c1,.int .i64 sz,.bool ou,.slice A2 m c2,.int .i64 ak] 28)) W)=>(Bx.fresh w #[.int .i64 ki,.string nm,.bool bo,.slice A1 p c1,.int .i64 sz,.bool ou,.slice A2 m c2,.int .i64 ak] 28).since k)
 obtain⟨g0,g1,g2,g3,g4,g5,g6,g7⟩:=bx8 (HX.out _ (Since.refl _))
 have HP:=lH hP
 clear hP
 by_cases h1:64<m
 · have z1:((64:Int)<(m:Int)):=by omega
   go_enter Tryz.func25,Tryz.ntmps25
   go_wp2
   go_ret
   exact RetB.no HP.out HS.out
 · have h2:256<p:=by omega
   have z1:¬ ((64:Int)<(m:Int)):=by omega
   have z2:((256:Int)<(p:Int)):=by omega
   clear hb
   go_enter Tryz.func25,Tryz.ntmps25
   go_wp2
   go_ret
   exact RetB.no HP.out HS.out
theorem right_small (w:World) (ki:Int) (nm:ByteArray) (bo:Bool) (sz:Int) (ou:Bool) (ak:Int) (A1 A2:Option Addr) (p m c1 c2:Nat) (x:Iq) (T:ByteArray) (hp:p≤256) (hm:m≤64) (hv:Sl 4 (QXq noG) w (.slice A2 m c2) x.vals)
 (hTX:∀ W,Since w W→Calls Tryz.prog 26 #[.agg #[.int .i64 ki,.string nm,.bool bo,.slice A1 p c1,.int .i64 sz,.bool ou,.slice A2 m c2,.int .i64 ak]] W fun e w'=>e = .returned (.string T)∧Since W w')
 (hTT:∀ W,Since w W→Calls Tryz.prog 44 #[.string T] W fun e w'=>∃ (l:List It) (at_ er:Int) (A:Option Addr) (c:Nat),e = .returned (.tuple #[.slice A l.length c,.int .i64 at_,.int .i64 er])∧Items w' (.slice A l.length c) l∧Doc6.TextR T l er∧Since W w')
 (hSM:∀ l er A c W g t,er=0→Doc6.TextR T l er→Since w W→Items W (.slice A l.length c) l→Bx W g #[.int .i64 ki,.string nm,.bool bo,.slice A1 p c1,.int .i64 sz,.bool ou,.slice A2 m c2,.int .i64 ak] t→Calls Tryz.prog 45 #[.slice A l.length c,.slice (some ⟨g,0,none⟩) 1 1] W (RetB (Valid x) W))
 (hNO:∀ l er,er≠0→Doc6.TextR T l er→¬ Valid x) :
 Calls Tryz.prog 25 #[.agg #[.int .i64 ki,.string nm,.bool bo,.slice A1 p c1,.int .i64 sz,.bool ou,.slice A2 m c2,.int .i64 ak]] w (RetB (Valid x) w):=by
 have HS:=lH (sA w (.cells #[.int .i64 ki,.string nm,.bool bo,.slice A1 p c1,.int .i64 sz,.bool ou,.slice A2 m c2,.int .i64 ak] 28))
 have HX:=lH (fun W (k:Since (w.alloc (.cells #[.int .i64 ki,.string nm,.bool bo,.slice A1 p c1,.int .i64 sz,.bool ou,.slice A2 m c2,.int .i64 ak] 28)) W)=>(Bx.fresh w #[.int .i64 ki,.string nm,.bool bo,.slice A1 p c1,.int .i64 sz,.bool ou,.slice A2 m c2,.int .i64 ak] 28).since k)
 obtain⟨g0,g1,g2,g3,g4,g5,g6,g7⟩:=bx8 (HX.out _ (Since.refl _))
 have TX:=lH hTX
 have TT:=lH hTT
 have SM:=lH hSM
 have NO:=lH hNO
 have H:=lH hv
 have HN:=lH hv.at_.1
 clear hTX hTT hSM hNO hv
 have z1:¬ ((64:Int)<(m:Int)):=by omega
 have z2:¬ ((256:Int)<(p:Int)):=by omega
 go_enter Tryz.func25,Tryz.ntmps25
 go_wp2
 go_loopw [3] (fun i wr=>∃ k:Nat,k≤m∧i = .int .i64 (k:Int)∧Hid (Since (w.alloc (.cells #[.int .i64 ki,.string nm,.bool bo,.slice A1 p c1,.int .i64 sz,.bool ou,.slice A2 m c2,.int .i64 ak] 28)) wr)) (fun i _=>m - (intOf i).toNat)
 case atStart=>exact⟨0,Nat.zero_le _,rfl,Since.refl _⟩
 case round =>
  obtain⟨k,hk,rfl,HW⟩:=hrel
  obtain⟨g0,g1,g2,g3,g4,g5,g6,g7⟩:=bx8 (HX.out _ HW.out)
  by_cases hlt:k<m
  · have hkx:k<x.vals.length:=by have:=HN.out; omega
    obtain⟨b,o,A',c',rfl,-,e0,e1,e2,e3⟩:=elXq (H.out.since (stXq _) (HS.out.trans HW.out)) hkx
    have hmem:=List.getElem_mem hkx
    generalize x.vals[k]=v at *
    by_cases h3:64<v.l.length
    · have z3:((64:Int)<(v.l.length:Int)):=by omega
      have HNV:=lH (show ¬ Valid x from fun h=>by have:=(valid_small h).2.2 v hmem; omega)
      generalize v.l.length=q at *
      clear hmem hkx
      go_wp2
      go_ret
      exact RetB.no HNV.out (HS.out.trans HW.out)
    · have z3:¬ ((64:Int)<(v.l.length:Int)):=by omega
      generalize v.l.length=q at *
      clear hmem hkx
      go_wp2
      go_roundw
      case rel=>exact⟨k+1,by omega,by go_num,HW.out⟩
      case measure=>simp[intOf]; omega
  · obtain rfl:k=m:=by omega
    go_wp2_with fail
    (with_reducible refine (TX.out _ (HS.out.trans HW.out)).mono ?_)
    rintro e w1 ⟨rfl,h1⟩
    go_wp2_with fail
    have S1:=lH ((HS.out.trans HW.out).trans h1)
    (with_reducible refine (TT.out _ S1.out).mono ?_)
    rintro e w2 ⟨l,at_,er,A,c,rfl,hI,hR,h2⟩
    have S2:=lH (S1.out.trans h2)
    obtain⟨g0,g1,g2,g3,g4,g5,g6,g7⟩:=bx8 (HX.out _ ((HW.out.trans h1).trans h2))
    have HI:=lH hI
    clear hI
    by_cases her:er=0
    · subst her
      have S3:=lH (S2.out.trans (sA w2 (.cells #[.int .i64 ki,.string nm,.bool bo,.slice A1 p c1,.int .i64 sz,.bool ou,.slice A2 k c2,.int .i64 ak] 28)))
      have SS:=lH (SM.out l 0 A c _ w2.heap.size _ rfl hR S3.out (HI.out.since (stI _) (sA _ _)) (Bx.fresh w2 #[.int .i64 ki,.string nm,.bool bo,.slice A1 p c1,.int .i64 sz,.bool ou,.slice A2 k c2,.int .i64 ak] 28))
      generalize l.length=n at *
      go_wp2_with fail
      (with_reducible refine SS.out.mono ?_)
      rintro e w3 ⟨r,rfl,hr,h3⟩
      go_wp2
      go_ret
      exact⟨r,rfl,hr,S3.out.trans h3⟩
    · have HNV:=lH (NO.out l er her hR)
      have z4:(er == 0)=false:=by rw[beq_eq_false_iff_ne]; exact her
      generalize l.length=n at *
      clear hR
      go_wp2
      go_ret
      exact RetB.no HNV.out S2.out
theorem items_ok {l:List It} {T:ByteArray} {p e:Int} (k:textD T=(l,p,e)):l.length≤100000∧∀ x ∈ l,x.dom.length≤100000∧x.vals.length≤100000∧∀ y ∈ x.vals,y.l.length≤100000:=by
 obtain⟨h1,h2⟩:=bd_text k
 exact⟨Nat.le_trans h1 (by decide),fun x hx=>⟨Nat.le_trans (h2 x hx).1 (by decide),Nat.le_trans (h2 x hx).2.1 (by decide),fun y hy=>Nat.le_trans ((h2 x hx).2.2 y hy) (by decide)⟩⟩
theorem right_any (x:Iq) (u:Array Value) (w:World) (ht:TabIn w) (ha:ArgI w x u) (hb:BoJ x) :
 Calls Tryz.prog 25 #[.agg u] w (RetB (Valid x) w):=by
 have ha':=ha
 obtain⟨A1,c1,A2,c2,rfl,hd,hv⟩:=ha'
 by_cases hbig:64<x.vals.length∨256<x.dom.length
 · exact right_big w _ _ _ _ _ _ A1 A2 _ _ c1 c2 _ (fun h=>by have:=valid_small h; omega) hbig
 refine right_small w _ _ _ _ _ _ A1 A2 _ _ c1 c2 x (textR x) (by omega) (by omega) hv (fun W k=>text_any x _ W (ht.since k) (argI_since ha k) hb) (fun W k=>Doc6.text_any _ W (Nat.le_trans (textR_size hb) (by decide))) ?_ ?_
 · intro l er A c W g t he hR k hI hB
   subst he
   have hE:textD (textR x)=(l,0,0):=by
    rcases hR with ⟨-,h⟩ | ⟨h,-⟩
    · exact h
    · exact absurd rfl h
   obtain⟨hl,hi⟩:=items_ok hE
   refine (same_gen _ _ l [x] W hI (sl_item hB (hd.since stR k) (hv.since (stXq _) k)) hl (by simp) hi (fun z hz=>by
    rw[List.mem_singleton.1 hz]
    exact⟨Nat.le_trans hb.2.1 (by decide),Nat.le_trans hb.2.2.1 (by decide),fun y hy=>Nat.le_trans (hb.2.2.2.1 y hy).2.1 (by decide)⟩)).mono ?_
   rintro e w' ⟨r,he,hr,hs⟩
   refine⟨r,he,hr.trans ?_,hs⟩
   rw[← right_iff]
   constructor
   · intro h
     match l,h,hE with
     | [y],h,hE=>exact⟨y,0,hE,by simpa using h⟩
   · rintro⟨y,p,h,e⟩
     rw[hE] at h
     injection h with h1 h2
     rw[h1,← e]; rfl
 · intro l er he hR hV
   rcases hR with ⟨h,-⟩ | ⟨-,-,p,x',h,hx,-⟩
   · exact he h
   · obtain⟨y,q,h2,-⟩:=(right_iff x).2 hV
     rw[h] at h2
     injection h2 with h2
     cases h2
end Go.Proofs.YtjmmcnldfkjebaaGreatDoor.Doc7
end
section
namespace Go.Proofs.YtjmmcnldfkjebaaGreatDoor.Doc7
open Go.RowKit
open Dig Lx Tk Ps Ti Sh Law07
open Pge
def ItS (x:Iq) (w:World) (e:Ending) (w':World):Prop:=((Valid x∧e = .returned (.tuple #[.string (textR x),.int .i64 0]))∨(¬ Valid x∧e = .returned (.tuple #[.string nos,.int .i64 2])))∧Since w w'
theorem item_w (w:World) (ki:Int) (nm:ByteArray) (bo:Bool) (sz:Int) (ou:Bool) (ak:Int) (A1 A2:Option Addr) (p m c1 c2:Nat) (P:Prop) (T:ByteArray)
 (hRT:∀ W,Since w W→Calls Tryz.prog 25 #[.agg #[.int .i64 ki,.string nm,.bool bo,.slice A1 p c1,.int .i64 sz,.bool ou,.slice A2 m c2,.int .i64 ak]] W (RetB P W))
 (hTX:∀ W,Since w W→Calls Tryz.prog 26 #[.agg #[.int .i64 ki,.string nm,.bool bo,.slice A1 p c1,.int .i64 sz,.bool ou,.slice A2 m c2,.int .i64 ak]] W fun e w'=>e = .returned (.string T)∧Since W w') :
 Calls Tryz.prog 15 #[.agg #[.int .i64 ki,.string nm,.bool bo,.slice A1 p c1,.int .i64 sz,.bool ou,.slice A2 m c2,.int .i64 ak]] w fun e w'=>((P∧e = .returned (.tuple #[.string T,.int .i64 0]))∨(¬ P∧e = .returned (.tuple #[.string nos,.int .i64 2])))∧Since w w':=by
 have HS:=lH (sA w (.cells #[.int .i64 ki,.string nm,.bool bo,.slice A1 p c1,.int .i64 sz,.bool ou,.slice A2 m c2,.int .i64 ak] 28))
 have HX:=lH (fun W (k:Since (w.alloc (.cells #[.int .i64 ki,.string nm,.bool bo,.slice A1 p c1,.int .i64 sz,.bool ou,.slice A2 m c2,.int .i64 ak] 28)) W)=>(Bx.fresh w #[.int .i64 ki,.string nm,.bool bo,.slice A1 p c1,.int .i64 sz,.bool ou,.slice A2 m c2,.int .i64 ak] 28).since k)
 obtain⟨g0,g1,g2,g3,g4,g5,g6,g7⟩:=bx8 (HX.out _ (Since.refl _))
 have RT:=lH hRT
 have TX:=lH hTX
 clear hRT hTX
 go_enter Tryz.func15,Tryz.ntmps15
 go_wp2_with fail
 (with_reducible refine (RT.out _ HS.out).mono ?_)
 rintro e w1 ⟨r,rfl,hr,h1⟩
 have S1:=lH (HS.out.trans h1)
 obtain⟨g0,g1,g2,g3,g4,g5,g6,g7⟩:=bx8 (HX.out _ h1)
 cases r with
 | true =>
  have HP:=lH (hr.1 rfl)
  clear hr
  go_wp2_with fail
  (with_reducible refine (TX.out _ S1.out).mono ?_)
  rintro e w2 ⟨rfl,h2⟩
  go_wp2
  go_ret2
  exact⟨.inl ⟨HP.out,rfl⟩,S1.out.trans h2⟩
 | false =>
  have HP:=lH (show ¬ P from fun h=>by have:=hr.2 h; cases this)
  clear hr
  go_wp2
  go_ret2
  exact⟨.inr ⟨HP.out,rfl⟩,S1.out⟩
theorem item_any (x:Iq) (u:Array Value) (w:World) (ht:TabIn w) (ha:ArgI w x u) (hb:BoJ x) :
 Calls Tryz.prog 15 #[.agg u] w (ItS x w):=by
 have ha':=ha
 obtain⟨A1,c1,A2,c2,rfl,hd,hv⟩:=ha'
 exact item_w w _ _ _ _ _ _ A1 A2 _ _ c1 c2 (Valid x) (textR x) (fun W k=>right_any x _ W (ht.since k) (argI_since ha k) hb) (fun W k=>text_any x _ W (ht.since k) (argI_since ha k) hb)
theorem split_7 {s:ByteArray} (hs:s.size≤100000000) {us:List Tok} {p:Nat} {er:Int} (hr:splitD (L s)=(us,p,er)) {w:World} : Calls Tryz.prog 16 #[.string s] w fun e w'=>∃ A m c,e = .returned (.tuple #[.slice A m c,.int .i64 (p:Int),.int .i64 er])∧Since w w':=by
 refine (Doc6.split_any2 s w (Nat.le_trans hs (by decide))).mono ?_
 rw[hr]
 rintro e w' ⟨A,c,h1,-,h3⟩
 exact⟨A,us.length,c,h1,h3⟩
theorem split_says {ys:List It} (hw:∀ y ∈ ys,WfS y):∃ us p er,splitD (L (itemsB ys))=(us,p,er)∧((er=0∧(itemsB ys).size≤8192∧(textP ys).length≤4096)∨(er≠0∧(8192<(itemsB ys).size∨4096<(textP ys).length))):=by
 by_cases h8:(itemsB ys).size≤8192
 · by_cases h4:(textP ys).length≤4096
   · obtain⟨us,h⟩:=split_small (L_items ys) (fit_items hw) h8 h4
     exact⟨us,0,0,h,.inl ⟨rfl,h8,h4⟩⟩
   · obtain⟨p,h⟩:=split_big (L_items ys) (fit_items hw) h8 (by omega)
     exact⟨[],p,3,h,.inr ⟨by decide,.inr (by omega)⟩⟩
 · exact⟨[],0,3,if_pos (by rw[L_len]; omega),.inr ⟨by decide,.inl (by omega)⟩⟩
theorem text7_any (l:List Iq) (v:Value) (w:World) (ht:TabIn w) (h:ItemsQ w v l) (hl:l.length≤10000) (hb:∀ x ∈ l,BoJ x) :
 Calls Tryz.prog 8 #[v] w (RetTx l w):=by
 have H:=lH h
 have HT:=lH ht
 have HB:=lH hb
 obtain⟨A0,c0,rfl⟩:=h.form
 obtain⟨n,hnn⟩:∃ n,n=l.length:=⟨_,rfl⟩
 rw[← hnn] at H hl ⊢
 have HN:=lH hnn
 clear h ht hb hnn
 by_cases hbig:512<n
 · have z1:((512:Int)<(n:Int)):=by omega
   go_enter Tryz.func8,Tryz.ntmps8
   go_wp2
   go_ret2
   exact⟨⟨#[]⟩,3,rfl,.inl ⟨by rw[← HN.out]; exact hbig,rfl,rfl⟩,Since.refl _⟩
 have z1:¬ ((512:Int)<(n:Int)):=by omega
 go_enter Tryz.func8,Tryz.ntmps8
 go_wp2
 go_loopw [4,5] (fun s i wr=>∃ (k:Nat) (T:ByteArray),k≤n∧i = .int .i64 (k:Int)∧s = .string T∧T.size≤8193*k∧Hid (∃ ys:List It,l.take k=ys.map itq∧(∀ y ∈ ys,WfS y)∧T=itemsB ys)∧Hid (Since w wr)) (fun _ i _=>n - (intOf i).toNat)
 case atStart=>exact⟨0,⟨#[]⟩,Nat.zero_le _,rfl,rfl,by decide,⟨[],by rw[List.take_zero]; rfl,fun y hy=>(by cases hy),rfl⟩,Since.refl _⟩
 case round =>
  obtain⟨k,T,hk,rfl,rfl,hsz,HY,HW⟩:=hrel
  by_cases hkn:k<n
  · have hkl:k<l.length:=by have:=HN.out; omega
    obtain⟨bb,o,u,rfl,hq,hul,hcs⟩:=H.out.el hkl
    obtain⟨A1,c1,A2,c2,rfl,ha⟩:=argI_of hq
    have hbx:=HB.out l[k] (List.getElem_mem hkl)
    have hst:l.take (k+1)=l.take k ++ [l[k]]:=List.take_succ_eq_append_getElem hkl
    have hmem:l[k] ∈ l:=List.getElem_mem hkl
    obtain⟨x,hx⟩:∃ x,x=l[k]:=⟨_,rfl⟩
    rw[← hx] at hst ha hbx hcs hmem
    have HIT:=lH (item_any x _ wr (HT.out.since HW.out) (argI_since ha HW.out) hbx)
    obtain⟨g0,g1,g2,g3,g4,g5,g6,g7⟩:=cells8 hcs wr HW.out
    have HST:=lH hst
    have HMM:=lH hmem
    obtain⟨X,hX⟩:∃ X,X=x:=⟨_,rfl⟩
    obtain⟨ki,nm,bo,dm,sz,ou,vs,ak⟩:=x
    simp only at g0 g1 g2 g3 g4 g5 g6 g7 HIT
    obtain⟨dn,hdn⟩:∃ dn,dn=dm.length:=⟨_,rfl⟩
    obtain⟨vn,hvn⟩:∃ vn,vn=vs.length:=⟨_,rfl⟩
    rw[← hdn] at g3 HIT
    rw[← hvn] at g6 HIT
    rw[← hX] at HIT HST HMM
    clear hst hx hq hul hcs ha hbx hmem hX hdn hvn
    go_wp2_with fail
    (with_reducible refine HIT.out.mono ?_)
    rintro e w1 ⟨hIS,h1⟩
    have S1:=lH (HW.out.trans h1)
    clear HIT g0 g1 g2 g3 g4 g5 g6 g7
    rcases hIS with ⟨hV,rfl⟩ | ⟨hV,rfl⟩
    · obtain⟨ys,hys,hyw,hyt⟩:=HY.out
      obtain⟨y,hy,hw⟩:=hV
      have ht8:(textR X).size≤8192:=by rw[hy,text_wf hw.1]; exact hw.2.1
      have HE:=lH (show ∃ ys:List It,l.take (k+1)=ys.map itq∧(∀ y ∈ ys,WfS y)∧T++textR X++(⟨#[10]⟩:ByteArray)=itemsB ys from⟨ys ++ [y],by rw[HST.out,hys,hy,List.map_append]; rfl,fun z hz=>by
       rcases List.mem_append.1 hz with hz | hz
       · exact hyw z hz
       · rw[List.mem_singleton.1 hz]; exact hw,by rw[items_snoc,hyt,hy,text_wf hw.1,ByteArray.append_assoc]⟩)
      clear hys hyw hyt hy hw HY
      generalize textR X=P at *
      have gg1:¬ (9223372036854775807<T.size+P.size):=by omega
      have gg2:¬ (9223372036854775807<T.size+P.size+1):=by omega
      go_wp2
      go_roundw
      case rel=>exact⟨k+1,T++P++(⟨#[10]⟩:ByteArray),by omega,by go_num,rfl,by rw[ByteArray.size_append,ByteArray.size_append]; show T.size+P.size+1≤_; omega,HE.out,S1.out⟩
      case measure=>simp[intOf]; omega
    · have HV:=lH hV
      clear hV HY
      go_wp2
      go_ret2
      exact⟨_,2,rfl,.inr (.inl ⟨by rw[← HN.out]; omega,fun h=>HV.out (h _ HMM.out),rfl,rfl⟩),S1.out⟩
  · obtain rfl:k=n:=by omega
    obtain⟨ys,hys,hyw,hyt⟩:=HY.out
    have e:l.take k=l:=List.take_of_length_le (by have:=HN.out; omega)
    rw[e] at hys
    have h5:ys.length≤512:=by
     have:=congrArg List.length hys
     rw[List.length_map] at this
     have:=HN.out; omega
    obtain⟨us,p,er,hsp,hE⟩:=split_says hyw
    rw[← hyt] at hsp hE
    have SP:=lH (split_7 (w:=wr) (by omega) hsp)
    have HYS:=lH hys
    have HYW:=lH hyw
    have HYT:=lH hyt
    have H5:=lH h5
    clear e hys hyw hyt h5 HY hsp
    go_wp2_with fail
    (with_reducible refine SP.out.mono ?_)
    rintro e w2 ⟨A3,m3,c3,rfl,h3⟩
    have S3:=lH (HW.out.trans h3)
    rcases hE with ⟨rfl,h8,h4⟩ | ⟨he,hbg⟩
    · have H8:=lH h8
      have H4:=lH h4
      clear h8 h4
      go_wp2
      go_ret2
      exact⟨T,0,rfl,.inr (.inr ⟨ys,HYS.out,H5.out,HYW.out,.inr ⟨by rw[← HYT.out]; exact H8.out,H4.out,HYT.out,rfl⟩⟩),S3.out⟩
    · have z3:(er != 0)=true:=by rw[bne_iff_ne]; exact he
      have HG:=lH hbg
      clear hbg
      go_wp2
      go_ret2
      exact⟨⟨#[]⟩,3,rfl,.inr (.inr ⟨ys,HYS.out,H5.out,HYW.out,.inl ⟨by rw[← HYT.out]; exact HG.out,rfl,rfl⟩⟩),S3.out⟩
end Go.Proofs.YtjmmcnldfkjebaaGreatDoor.Doc7
end
section
namespace Go.Proofs.YtjmmcnldfkjebaaGreatDoor.Law07
open Go.RowKit
open Dig Lx Tk Ps Ti Sh
open Law06 (TextSays text_at)
theorem nP_plq {p:Pq} {q:Pl} (h:nP p=plq q):p=plq q:=by
 obtain⟨k,n,s,d⟩:=p
 obtain⟨k',n',s'⟩:=q
 simp only[nP,plq,Pq.mk.injEq] at h ⊢
 obtain⟨h1,h2,h3,h4⟩:=h
 refine⟨h1,h2,h3,?_⟩
 by_cases hd:d=0
 · exact hd
 · rw[if_neg hd] at h4; omega
theorem map_back {α β:Type} {f:α→α} {g:β→α} (h:∀ a b,f a=g b→a=g b):∀ {l:List α} {m:List β},l.map f=m.map g→l=m.map g
 | [],[],_=>rfl
 | [],b :: m,e=>by simp at e
 | a :: l,[],e=>by simp at e
 | a :: l,b :: m,e=>by
  simp only[List.map_cons,List.cons.injEq] at e ⊢
  exact⟨h a b e.1,map_back h e.2⟩
theorem nX_xpq {x:Xq} {y:Xp} (h:nX x=xpq y):x=xpq y:=by
 obtain⟨k,n,s,l⟩:=x
 obtain⟨k',n',s',l'⟩:=y
 simp only[nX,xpq,Xq.mk.injEq] at h ⊢
 exact⟨h.1,h.2.1,h.2.2.1,map_back (fun a b=>nP_plq) h.2.2.2⟩
theorem nI_itq {x:Iq} {y:It} (h:nI x=itq y):x=itq y:=by
 obtain⟨a1,a2,a3,a4,a5,a6,a7,a8⟩:=x
 obtain⟨b1,b2,b3,b4,b5,b6,b7,b8⟩:=y
 simp only[nI,itq,Iq.mk.injEq] at h ⊢
 exact⟨h.1,h.2.1,h.2.2.1,h.2.2.2.1,h.2.2.2.2.1,h.2.2.2.2.2.1,map_back (fun a b=>nX_xpq) h.2.2.2.2.2.2.1,h.2.2.2.2.2.2.2⟩
theorem all_at (A:Option Addr) (n c:Nat) (l:List Iq) (w:World) (h:Sl 8 (QIq noG) w (.slice A n c) l) (hs:∀ x ∈ l,SmI x) (hn:l.length=n) (hm:n≤10000) :
 Calls Tryz.prog 7 #[.slice A n c] w fun e w'=>∃ B d,e = .returned (.slice B n d)∧ItemsQ w' (.slice B n d) (l.map nI)∧Since w w':=by
 refine (all_any noG _ l w h (fun b hb=>hb.elim) (by omega) (fun x hx=>⟨Nat.le_trans (hs x hx).2.1 (by decide),fun y hy=>Nat.le_trans ((hs x hx).2.2.2 y hy).2.1 (by decide)⟩)).mono ?_
 rintro e w' ⟨B,d,cs,rfl,ho,hr,k⟩
 have e1:(l.map nI).length=n:=by rw[List.length_map,hn]
 rw[e1] at ho hr ⊢
 exact⟨B,d,rfl,Sl.mono (fun x u=>QIq.none) (Sl.own ho hr e1.symm),k⟩
theorem text_all {Ok:World→Prop} (S:ShowSays Ok) (l:List Iq) (n:Nat) (hn:l.length=n) (hm:n≤10000) (hs:∀ x ∈ l,SmI x) (hb:∀ x ∈ l,BdI x) (B:Option Addr) (d:Nat) (w:World) (ok:Ok w) (h:ItemsQ w (.slice B n d) (l.map nI)) :
 Calls Tryz.prog 6 #[.slice B n d] w fun e w' =>
  (∃ er:Int,(er != 0)=true∧e = .returned (.tuple #[.string ⟨#[]⟩,.int .i64 er])∧Since w w') ∨
  (∃ (ys:List It) (T:ByteArray),e = .returned (.tuple #[.string T,.int .i64 0])∧Hid (l=ys.map itq∧ys.length=n∧textD T=(ys,0,0)∧T.size≤8192)∧Since w w'):=by
 refine (S.2.2.2 (l.map nI) _ w ok h (by rw[List.length_map]; omega) (fun x hx=>by
  obtain⟨y,hy,rfl⟩:=List.mem_map.1 hx
  exact boI_of (hb y hy) (hs y hy))).mono ?_
 rintro e w' ⟨T,er,rfl,hT,k⟩
 by_cases he:er=0
 · subst he
   obtain⟨ys,h1,h2,h3,h4,-⟩:=(show_back hT).2 rfl
   refine .inr ⟨ys,T,rfl,⟨map_back (fun a b=>nI_itq) h1,?_,h3,h4⟩,k⟩
   have:=congrArg List.length h1
   rw[List.length_map,List.length_map] at this
   omega
 · obtain rfl:=(show_back hT).1 he
   exact .inl ⟨er,by rw[bne_iff_ne]; exact he,rfl,k⟩
theorem ge_yes {k:Nat} (h:100≤k):decide ((100:Int)≤(k:Int))=true:=by rw[decide_eq_true_iff]; omega
theorem ge_no {k:Nat} (h:¬ 100≤k):decide ((100:Int)≤(k:Int))=false:=by rw[decide_eq_false_iff_not]; omega
end Go.Proofs.YtjmmcnldfkjebaaGreatDoor.Law07
end
section
namespace Go.Proofs.YtjmmcnldfkjebaaGreatDoor.Law07
open Go.RowKit
open Dig Lx Tk Ps Ti Sh
open Law06 (TextSays)
theorem itq_nI (y:It):nI (itq y)=itq y:=by
 simp only[nI,itq,Iq.mk.injEq,true_and,and_true]
 rw[List.map_map]
 refine List.map_congr_left fun x _ => ?_
 simp only[Function.comp,nX,xpq,Xq.mk.injEq,true_and]
 rw[List.map_map]
 exact List.map_congr_left fun p _=>rfl
theorem valid_nI {x:Iq} : Valid (nI x)↔Valid x:=
 ⟨fun ⟨y,h,hw⟩=>⟨y,nI_itq h,hw⟩,fun ⟨y,h,hw⟩=>⟨y,by rw[h,itq_nI],hw⟩⟩
theorem shows_nI {l:List Iq} {T:ByteArray} {e:Int} (h:ShowsT (l.map nI) T e):ShowsT l T e:=by
 rcases h with ⟨h1,h2⟩ | ⟨h1,h2,h3⟩ | ⟨ys,h1,h2⟩
 · rw[List.length_map] at h1; exact .inl ⟨h1,h2⟩
 · rw[List.length_map] at h1
   refine .inr (.inl ⟨h1,fun h=>h2 fun x hx => ?_,h3⟩)
   obtain⟨y,hy,rfl⟩:=List.mem_map.1 hx
   exact valid_nI.2 (h y hy)
 · exact .inr (.inr ⟨ys,map_back (fun a b=>nI_itq) h1,h2⟩)
theorem text_nI {Ok:World→Prop} (S:ShowSays Ok) (l:List Iq) (n:Nat) (hn:l.length=n) (hm:n≤10000) (hs:∀ x ∈ l,SmI x) (hb:∀ x ∈ l,BdI x) (B:Option Addr) (d:Nat) (w:World) (ok:Ok w) (h:ItemsQ w (.slice B n d) (l.map nI)) :
 Calls Tryz.prog 6 #[.slice B n d] w (RetTx l w):=by
 refine (S.2.2.2 (l.map nI) _ w ok h (by rw[List.length_map]; omega) (fun x hx=>by
  obtain⟨y,hy,rfl⟩:=List.mem_map.1 hx
  exact boI_of (hb y hy) (hs y hy))).mono ?_
 rintro e w' ⟨T,er,rfl,hT,k⟩
 exact⟨T,er,rfl,shows_nI hT,k⟩
theorem texts_any {Ok:World→Prop} (hO:∀ w,Ok w→TabIn w) (S:ShowSays Ok) (A:Option Addr) (n c:Nat) (l:List Iq) (w:World) (ok:Ok w) (h:ItemsIn w A n c l):Calls Tryz.prog 3 #[.slice A n c] w fun e w'=>e = .returned (.bool true)∧Since w w':=by
 have AL:=lH (alive S w ok)
 have OK:=lH (fun W (h:Since w W)=>S.1 w W ok h)
 obtain⟨hn,hv,hb,hm⟩:=h
 have hnm:n≤9223372036854775807:=by unfold maxLen at hm; omega
 have HV:=lH hv
 have HB:=lH hb
 have HN:=lH hn
 have OT:=lH hO
 have SS:=lH S
 clear hO S hn hv hb hm
 go_enter Tryz.func3,Tryz.ntmps3
 go_wp2_with (go_at_call 4; (with_reducible refine AL.out.mono ?_); rintro e w1 ⟨rfl,h1⟩)
 go_loopw [12] (fun i wr=>∃ k:Nat,k≤n∧k≤100∧i = .int .i64 (k:Int)∧Hid (∀ x ∈ l.take k,SmI x)∧Since w wr) (fun i _=>n - (intOf i).toNat)
 case atStart=>exact⟨0,Nat.zero_le _,Nat.zero_le _,rfl,(by intro y hy; simp at hy),h1⟩
 case round =>
  obtain⟨k,hk,hk100,rfl,HS,hw⟩:=hrel
  by_cases hlt:k<n
  · by_cases h100:100≤k
    · have u1:decide ((100:Int)≤(k:Int))=true:=ge_yes h100
      go_wp2
      go_ret
      exact⟨rfl,hw⟩
    have u1:decide ((100:Int)≤(k:Int))=false:=ge_no h100
    have hkx:k<l.length:=by have:=HN.out; omega
    obtain⟨b,o,A1,c1,A2,c2,rfl,hd,hdf,hv,g0,g1,g2,g3,g4,g5,g6,g7⟩:=elIq2 HV.out hw hkx
    have hst:=takeR hkx
    have hbd:=HB.out l[k] (List.getElem_mem hkx)
    obtain⟨x,hx⟩:∃ x,x=l[k]:=⟨_,rfl⟩
    rw[← hx] at hd hdf hv g0 g1 g2 g3 g4 g5 g6 g7 hst hbd
    obtain⟨ki,nm,bo,dm,sz,ou,vs,ak⟩:=x
    simp only at hd hdf hv g0 g1 g2 g3 g4 g5 g6 g7
    obtain⟨p,hp⟩:∃ p,p=dm.length:=⟨_,rfl⟩
    obtain⟨m,hm⟩:∃ m,m=vs.length:=⟨_,rfl⟩
    have FC:=lH (few_any ki nm bo sz ou ak A1 A2 p m c1 c2 dm vs wr hp (by rw[hm]; exact hv.since (stXq _) hw) hbd.2.2.1 hbd.1 (by rw[hp]; exact hbd.2.1) hbd.2.2.2.1)
    rw[← hp] at hd hdf g3
    rw[← hm] at hv g6
    have HT:=lH hst
    have H100:=lH h100
    clear hst hx hkx hv hd hdf hbd hp hm h100
    go_wp2_with (go_at_call 5; (with_reducible refine FC.out.mono ?_); rintro e w2 ⟨_ | _,rfl,hr,hs⟩)
    · go_ret
      exact⟨rfl,hw.trans hs⟩
    · go_roundw
      case rel =>
       refine⟨k+1,by omega,by have:=H100.out; omega,by go_num,?_,hw.trans hs⟩
       intro y hy
       rw[HT.out] at hy
       rcases List.mem_append.1 hy with hy | hy
       · exact HS.out y hy
       · obtain rfl:=List.mem_singleton.1 hy
         first | exact hr rfl | exact hr trivial
      case measure=>simp[intOf]; omega
  · obtain rfl:k=n:=by omega
    have e:l.take k=l:=List.take_of_length_le (by have:=HN.out; omega)
    rw[e] at HS
    go_wp2_with (first
     | (go_at_call 7; (with_reducible refine (all_at A k c l _ (HV.out.since (stIq _) hw) HS.out HN.out (by omega)).mono ?_); rintro e w2 ⟨B,d,rfl,hq,h2⟩; have k2:=hw.trans h2)
     | (go_at_call 6; (with_reducible refine (text_nI SS.out l k HN.out (by omega) HS.out HB.out B d _ (OK.out _ k2) hq).mono ?_); rintro e w3 ⟨T1,e1,rfl,hT1,h3⟩; have k3:=k2.trans h3; have HT1:=lH hT1; clear hT1)
     | (go_at_call 8; (with_reducible refine (Doc7.text7_any l _ _ (OT.out _ (OK.out _ k3)) (HV.out.since (stIq _) k3) (by have:=HN.out; omega) (fun x hx=>Doc7.boJ_of (HB.out x hx) (HS.out x hx))).mono ?_); rintro e w4 ⟨T2,e2,rfl,hT2,h4⟩; have k4:=k3.trans h4; obtain⟨rfl,rfl⟩:=shows_one HT1.out hT2))
    all_goals go_ret
    all_goals exact⟨rfl,k4⟩
end Go.Proofs.YtjmmcnldfkjebaaGreatDoor.Law07
end
