/- What the small calls of the document's own answers for layer 2 give back: a digit, whether digits are right, t -/
import Derived.Test.YtjmmcnldfkjebaaGreatDoorQab
set_option maxHeartbeats 1600000
set_option maxRecDepth 100000
set_option linter.unusedVariables false
set_option linter.unusedSimpArgs false
section
namespace Go.Proofs.YtjmmcnldfkjebaaGreatDoor.Ref02
open Go.RowKit
open Dig
theorem digit_any (v:Value) (ds:List Nat) (i:Nat) (w:World) (h:Row w v ds) (hl:ds.length≤1000000) :
 Calls Tryz.prog 118 #[v,.int .i64 (i:Int)] w fun e w'=>e = .returned (.int .u64 ((ds.getD i 0:Nat):Int))∧w=w':=by
 obtain⟨hd,A,c,rfl,hc,-⟩:=h
 have hb:=getD_lt hd i
 obtain⟨d,hdd⟩:∃ d,d=ds.getD i 0:=⟨_,rfl⟩
 rw[← hdd] at hb ⊢
 by_cases hi:i<ds.length
 · obtain⟨b,o,rfl,hcc⟩:=hc (by omega)
   have hcell:=hcc i hi
   rw[← hdd] at hcell
   clear hc hcc hdd hd
   go_enter Tryz.func118,Tryz.ntmps118
   go_wp2
   go_ret
   exact⟨rfl,rfl⟩
 · have h0:d=0:=by rw[hdd]; simp[List.getD,Nat.le_of_not_lt hi]
   subst h0
   clear hc hdd hd
   go_enter Tryz.func118,Tryz.ntmps118
   go_wp2
   go_ret
   exact⟨rfl,rfl⟩
theorem right_any (v:Value) (ds:List Nat) (w:World) (h:Row w v ds) (hl:ds.length≤1000000) :
 Calls Tryz.prog 121 #[v] w fun e w'=>e = .returned (.bool (rightB ds))∧w=w':=by
 obtain⟨hd,A,c,rfl,hc,-⟩:=h
 by_cases h1:256<ds.length
 · have e:rightB ds=false:=by simp[rightB]; omega
   rw[e]
   clear hc e
   go_enter Tryz.func121,Tryz.ntmps121
   go_wp2
   go_ret
   exact⟨rfl,rfl⟩
 · by_cases h2:ds.length=0
   · have e:rightB ds=true:=by simp[rightB,h2]
     rw[e]
     clear hc e
     have z:((ds.length:Int) == 0)=true:=by simp[h2]
     go_enter Tryz.func121,Tryz.ntmps121
     go_wp2
     go_ret
     exact⟨rfl,rfl⟩
   · obtain⟨b,o,rfl,hcc⟩:=hc (by omega)
     have hcell:=hcc (ds.length - 1) (by omega)
     have e:rightB ds=((ds.getD (ds.length - 1) 0:Int) != 0):=by
      simp only[rightB]
      rw[decide_eq_true (by omega:ds.length≤256),decide_eq_false h2]
      simp only[Bool.true_and,Bool.false_or]
      rw[Bool.eq_iff_iff]; simp
     obtain⟨d,hdd⟩:∃ d,d=ds.getD (ds.length - 1) 0:=⟨_,rfl⟩
     rw[e,← hdd]
     rw[← hdd] at hcell
     obtain⟨n,hn⟩:∃ n,ds.length=n+1:=⟨ds.length - 1,by omega⟩
     rw[hn] at h1 ⊢
     rw[hn,Nat.add_sub_cancel] at hcell
     have z:((n:Int)+1 == 0)=false:=by simp; omega
     have h1':(n:Int)+1≤256:=by omega
     clear hc hcc hdd hd e h2 hn hl h1
     go_enter Tryz.func121,Tryz.ntmps121
     go_wp2
     go_ret
     exact⟨rfl,rfl⟩
end Go.Proofs.YtjmmcnldfkjebaaGreatDoor.Ref02
end
section
namespace Go.Proofs.YtjmmcnldfkjebaaGreatDoor.Ref03
open Go.RowKit
open Dig
theorem right_any (m:Value) (neg:Bool) (ds:List Nat) (w:World) (h:Row w m ds) (hl:ds.length≤10000) :
 Calls Tryz.prog 88 #[sv neg m] w fun e w'=>e = .returned (.bool (srightB neg ds))∧Since w w':=by
 have H:=lH h
 have HL:=lH hl
 obtain⟨_,A,c,rfl,_,-⟩:=h
 by_cases r:rightB ds=true
 · cases neg
   · have e:srightB false ds=true:=by simp[srightB,r]
     rw[e]
     clear e
     go_enter Tryz.func88,Tryz.ntmps88
     go_wp2_with (go_at_call 121; (with_reducible refine (Ref02.right_any (.slice A ds.length c) ds _ (H.out.since ((Since.refl _).alloc _)) (by have:=HL.out; omega)).mono ?_); rintro e w1 ⟨rfl,rfl⟩)
     go_ret
     exact⟨rfl,(Since.refl _).alloc _⟩
   · by_cases h0:ds.length=0
     · have e:srightB true ds=false:=by simp[srightB,h0]
       rw[e]
       have hz:((ds.length:Int) == 0)=true:=by rw[beq_iff_eq]; omega
       clear e h0
       go_enter Tryz.func88,Tryz.ntmps88
       go_wp2_with (go_at_call 121; (with_reducible refine (Ref02.right_any (.slice A ds.length c) ds _ (H.out.since ((Since.refl _).alloc _)) (by have:=HL.out; omega)).mono ?_); rintro e w1 ⟨rfl,rfl⟩)
       go_ret
       exact⟨rfl,(Since.refl _).alloc _⟩
     · have e:srightB true ds=true:=by simp[srightB,r]; intro h; exact h0 (by rw[h]; rfl)
       rw[e]
       have hz:((ds.length:Int) == 0)=false:=by rw[beq_eq_false_iff_ne]; omega
       clear e h0
       go_enter Tryz.func88,Tryz.ntmps88
       go_wp2_with (go_at_call 121; (with_reducible refine (Ref02.right_any (.slice A ds.length c) ds _ (H.out.since ((Since.refl _).alloc _)) (by have:=HL.out; omega)).mono ?_); rintro e w1 ⟨rfl,rfl⟩)
       go_ret
       exact⟨rfl,(Since.refl _).alloc _⟩
 · have r':rightB ds=false:=by simpa using r
   have e:srightB neg ds=false:=by simp[srightB,r']
   rw[e]
   clear e r
   go_enter Tryz.func88,Tryz.ntmps88
   go_wp2_with (go_at_call 121; (with_reducible refine (Ref02.right_any (.slice A ds.length c) ds _ (H.out.since ((Since.refl _).alloc _)) (by have:=HL.out; omega)).mono ?_); rintro e w1 ⟨rfl,rfl⟩)
   go_ret
   exact⟨rfl,(Since.refl _).alloc _⟩
theorem made_any (m:Value) (neg:Bool) (ds:List Nat) (w:World) (h:Row w m ds) (hl:ds.length≤1000000) :
 Calls Tryz.prog 82 #[.bool neg,m] w fun e w'=>e = .returned (sv (signB neg ds) m)∧Since w w':=by
 obtain⟨_,A,c,rfl,_,-⟩:=h
 cases neg
 · go_enter Tryz.func82,Tryz.ntmps82
   go_wp2
   exact bodyPost_ret (v:=sv (signB false ds) (.slice A ds.length c)) (by simp[results,Tryz.results82,go_sem,signB]) rfl ⟨rfl,by repeat (first | exact Since.refl _ | refine Since.alloc ?_ _ | refine Since.set ?_ (by first | exact Nat.le_refl _ | simp) _)⟩
 · by_cases h0:0<ds.length
   · have e:signB true ds=true:=by simp[signB,h0]
     rw[e]
     clear e
     go_enter Tryz.func82,Tryz.ntmps82
     go_wp2
     exact bodyPost_ret (v:=sv true (.slice A ds.length c)) (by simp[results,Tryz.results82,go_sem]) rfl ⟨rfl,by repeat (first | exact Since.refl _ | refine Since.alloc ?_ _ | refine Since.set ?_ (by first | exact Nat.le_refl _ | simp) _)⟩
   · have e:signB true ds=false:=by simp only[signB,Bool.true_and]; exact decide_eq_false h0
     rw[e]
     have hz:decide (0<(ds.length:Int))=false:=by rw[decide_eq_false_iff_not]; omega
     clear e
     go_enter Tryz.func82,Tryz.ntmps82
     go_wp2
     exact bodyPost_ret (v:=sv false (.slice A ds.length c)) (by simp[results,Tryz.results82,go_sem]) rfl ⟨rfl,by repeat (first | exact Since.refl _ | refine Since.alloc ?_ _ | refine Since.set ?_ (by first | exact Nat.le_refl _ | simp) _)⟩
end Go.Proofs.YtjmmcnldfkjebaaGreatDoor.Ref03
end
section
namespace Go.Proofs.YtjmmcnldfkjebaaGreatDoor.Ref02
open Go.RowKit
open Dig
theorem info_u32:(Tryz.prog.info? 140).map (fun i=>(i.zero,i.size,i.bytes))=some (some (.int .u32 0),1,4):=by kernel_rfl
theorem own_more {w':World} {base k:Nat} {e:TypeId} {v:Value} {ds:List Nat} (hk:k<ds.length) (h:w'.ownsRow base e 1 v (k+1) (u32s (ds.take k) ++ [.int .u32 ((ds.getD k 0:Nat):Int)])) :
 w'.ownsRow base e 1 v (k+1) (u32s (ds.take (k+1))):=by
 rw[take_more hk,u32s_append]; exact h
theorem trim_any (v:Value) (ds:List Nat) (w:World) (h:Row w v ds) (hl:ds.length≤1000000) :
 Calls Tryz.prog 119 #[v] w (RetRow (digs (num ds)) w):=by
 obtain⟨hd,A,c,rfl,hc,-⟩:=h
 obtain⟨i0,hi,hz0,hz1,hz2⟩:=info_parts info_u32
 have HC:=lH hc
 have HD:=lH hd
 clear hc hd
 go_enter Tryz.func119,Tryz.ntmps119
 go_wp2
 go_loop [3] (fun i=>∃ k:Nat,k≤ds.length∧i = .int .i64 k∧Hid (∀ i,k≤i→i<ds.length→ds.getD i 0=0)) (fun i=>(intOf i).toNat)
 case atStart=>exact⟨ds.length,Nat.le_refl _,rfl,fun i h1 h2=>by omega⟩
 case round =>
  obtain⟨k,hk,rfl,hz⟩:=hrel
  have hfin:∀ (A:Option Addr),(k=0∨ds.getD (k - 1) 0≠0)→(∀ k,k<ds.length→∃ b o,A=some ⟨b,o,none⟩∧w.cell? ⟨b,o+k,none⟩=some (.int .u32 ((ds.getD k 0:Nat):Int)))→True:=fun _ _ _=>trivial
  clear hfin
  by_cases h0:k=0
  · subst h0
    have hfin:=lH (digs_trim HD.out (k:=0) (by omega) hz.out (.inl rfl))
    go_wp2
    go_loopw [4,5] (fun s i wr=>s = .slice none 0 0∧i = .int .i64 0∧wr=w) (fun _ _ _=>0)
    case atStart=>exact⟨rfl,rfl,rfl⟩
    case round =>
     obtain⟨rfl,rfl,rfl⟩:=hrel
     go_wp2
     go_ret
     exact⟨_,rfl,by rw[hfin.out]; simp; exact Row.nil _,Since.refl _⟩
  · obtain⟨j,rfl⟩:∃ j,k=j+1:=⟨k - 1,by omega⟩
    have hj:j<ds.length:=by omega
    obtain⟨b,o,rfl,hcc⟩:=HC.out (by omega)
    have hcell:=hcc j hj
    obtain⟨d,hdd⟩:∃ d,d=ds.getD j 0:=⟨_,rfl⟩
    rw[← hdd] at hcell
    by_cases hdz:d=0
    · subst hdz
      have HDD:=lH hdd
      clear hcc hdd h0
      go_wp2
      go_round
      case rel=>exact⟨j,by omega,rfl,fun i h1 h2=>by
       by_cases e:i=j
       · subst e; exact HDD.out.symm
       · exact hz.out i (by omega) h2⟩
      case measure=>simp[intOf]
    · have hdb:((d:Int) == 0)=false:=by simp; omega
      have hfin:=lH (digs_trim HD.out (k:=j+1) (by omega) hz.out (.inr (by rw[Nat.add_sub_cancel,← hdd]; exact hdz)))
      have HCC:=lH hcc
      clear hcc hdd h0 hdz
      go_wp2
      clear hcell
      go_loopw [4,5] (fun s i wr=>∃ k:Nat,k≤j+1∧i = .int .i64 k∧wr.ownsRow w.heap.size 140 1 s k (u32s (ds.take k))∧Since w wr) (fun _ i _=>j+1 - (intOf i).toNat)
      case atStart=>exact⟨0,by omega,rfl,World.ownsRow_nil _ _ _ _,Since.refl _⟩
      case round =>
       obtain⟨k,hk2,rfl,hown,hw⟩:=hrel
       by_cases hlt:k<j+1
       · have hkd:k<ds.length:=by omega
         have hcell:=(Below.cell hw (World.block_lt_of_cell? _ _ (HCC.out k hkd))).trans (HCC.out k hkd)
         obtain⟨x,hx⟩:∃ x,x=ds.getD k 0:=⟨_,rfl⟩
         rw[← hx] at hcell
         have HX:=lH hx
         clear hx
         go_wp2_with (first
          | (at_builtin; refine wpList_append_own _ rfl _ _ 105 rfl w.heap.size 140 i0 (.int .u32 0) 1 4 Tryz.underlying105 hi hz0 hz1 hz2 rfl (by decide) _ _ _ rfl (hown.alloc _) ⟨wr.heap.size,0,none⟩ 1 1 [.int .u32 (x:Int)] rfl rfl ?c1 ?c2 ?c3 ?c4 ?c5 ?_))
         case c1 =>
          intro j u hj
          match j,hj with
          | 0,hj=>simp at hj; subst hj; simp[Addr.add]
         case c2=>intro u hu; simp at hu; subst hu; rfl
         case c3=>unfold maxLen; omega
         case c4=>omega
         case c5=>have:=hw.size; simp; omega
         intro v' w1 hown' hgrow _
         have hs1:Since w w1:=Below.grown (hw.alloc _) hgrow (by have:=hw.size; simp; omega) (fun g hg=>(hown.lt g hg).1)
         have ho1:=own_more hkd (HX.out ▸ hown')
         clear hown' hgrow hown hcell
         go_wp2
         go_roundw
         case rel=>exact⟨k+1,by omega,by go_num,ho1,hs1⟩
         case measure=>simp[intOf]; omega
       · obtain rfl:k=j+1:=by omega
         go_wp2
         go_ret
         exact⟨_,rfl,by rw[hfin.out]; exact Row.own (isDig_take HD.out _) hown,hw⟩
end Go.Proofs.YtjmmcnldfkjebaaGreatDoor.Ref02
end
section
namespace Go.Proofs.YtjmmcnldfkjebaaGreatDoor.Ref02
open Go.RowKit
open Dig
theorem plus_any (va vb:Value) (xs ys:List Nat) (w:World) (hx:Row w va xs) (hy:Row w vb ys) (lx:xs.length≤100000) (ly:ys.length≤100000) :
 Calls Tryz.prog 83 #[va,vb] w (RetRow (digs (num xs+num ys)) w):=by
 have HX:=lH hx
 have HY:=lH hy
 have LX:=lH (show xs.length≤1000000 by omega)
 have LY:=lH (show ys.length≤1000000 by omega)
 obtain⟨i0,hi,hz0,hz1,hz2⟩:=info_parts info_u32
 obtain⟨m,hm⟩:∃ m,m=max xs.length ys.length:=⟨_,rfl⟩
 have hm1:xs.length≤m:=by omega
 have hm2:ys.length≤m:=by omega
 have hmx:(if xs.length<ys.length then (ys.length:Int) else (xs.length:Int))=(m:Int):=by split <;> omega
 have hm3:m≤100000:=by omega
 obtain⟨dx,A,cA,rfl,_,-⟩:=hx
 obtain⟨dy,B,cB,rfl,_,-⟩:=hy
 have HD:=lH (And.intro dx dy)
 clear hm dx dy
 obtain⟨n1,hn1⟩:∃ n,n=xs.length:=⟨_,rfl⟩
 obtain⟨n2,hn2⟩:∃ n,n=ys.length:=⟨_,rfl⟩
 rw[← hn1] at HX hm1 lx hmx ⊢
 rw[← hn2] at HY hm2 ly hmx ⊢
 have HN:=lH (And.intro hn1 hn2)
 clear hn1 hn2
 go_enter Tryz.func83,Tryz.ntmps83
 go_wp2
 go_loopw [5,6,7] (fun s cv i wr=>∃ (k c:Nat) (acc:List Nat),k≤m+1∧i = .int .i64 k∧cv = .int .u64 c∧c≤1∧Hid (acc.length=k)∧Hid (IsDig acc)∧wr.ownsRow w.heap.size 140 1 s k (u32s acc)∧Hid (num acc+4294967296 ^ k*c=num (xs.take k)+num (ys.take k))∧Since w wr) (fun _ _ i _=>m+1 - (intOf i).toNat)
 case atStart=>exact⟨0,0,[],by omega,rfl,rfl,by omega,rfl,isDig_nil,World.ownsRow_nil _ _ _ _,by simp[Hid,num],Since.refl _⟩
 case round =>
  obtain⟨k,c,acc,hk,rfl,rfl,hc,hl,hd,hown,hv,hw⟩:=hrel
  by_cases hlt:k<m+1
  · obtain⟨x,hx⟩:∃ x,x=xs.getD k 0:=⟨_,rfl⟩
    obtain⟨y,hy⟩:∃ y,y=ys.getD k 0:=⟨_,rfl⟩
    have hxb:x<4294967296:=by rw[hx]; exact getD_lt HD.out.1 k
    have hyb:y<4294967296:=by rw[hy]; exact getD_lt HD.out.2 k
    have HK:=lH (And.intro hx hy)
    have hstep:=plus_step hl.out hv.out
    rw[← hx,← hy] at hstep
    have HS:=lH hstep
    clear hstep
    clear hx hy
    go_wp2_with (first
     | (go_at_call 118; (with_reducible refine (digit_any (.slice A n1 cA) xs k _ (HX.out.since hw) LX.out).mono ?_); rw[← HK.out.1]; rintro e w' ⟨rfl,rfl⟩)
     | (go_at_call 118; (with_reducible refine (digit_any (.slice B n2 cB) ys k _ (HY.out.since hw) LY.out).mono ?_); rw[← HK.out.2]; rintro e w' ⟨rfl,rfl⟩)
     | (at_builtin; refine wpList_append_own _ rfl _ _ 105 rfl w.heap.size 140 i0 (.int .u32 0) 1 4 Tryz.underlying105 hi hz0 hz1 hz2 rfl (by decide) _ _ _ rfl (hown.alloc _) ⟨wr.heap.size,0,none⟩ 1 1 [.int .u32 (((x:Int)+(y:Int)+(c:Int)) % 4294967296)] rfl rfl ?c1 ?c2 ?c3 ?c4 ?c5 ?_))
    case c1 =>
     intro j u hj
     match j,hj with
     | 0,hj=>simp at hj; subst hj; simp[Addr.add]
    case c2=>intro u hu; simp at hu; subst hu; rfl
    case c3=>unfold maxLen; omega
    case c4=>omega
    case c5=>have:=hw.size; simp; omega
    intro v' w1 hown' hgrow _
    have hs1:Since w w1:=Below.grown (hw.alloc _) hgrow (by have:=hw.size; simp; omega) (fun g hg=>(hown.lt g hg).1)
    have ho1:w1.ownsRow w.heap.size 140 1 v' (k+1) (u32s (acc ++ [(x+y+c) % 4294967296])):=by
     rw[u32s_append,u32s_one,show (((x+y+c) % 4294967296:Nat):Int)=((x:Int)+(y:Int)+(c:Int)) % 4294967296 by omega]
     exact hown'
    clear hown' hgrow hown
    go_wp2
    go_roundw
    case rel=>exact⟨k+1,(x+y+c) / 4294967296,acc ++ [(x+y+c) % 4294967296],by omega,by go_num,by go_num,by omega,by show _=_; rw[List.length_append,hl.out]; rfl,isDig_snoc hd.out (by omega),ho1,HS.out,hs1⟩
    case measure=>simp[intOf]; omega
  · obtain rfl:k=m+1:=by omega
    have hfin:=plus_end HD.out.1 HD.out.2 (by have:=HN.out.1; omega) (by have:=HN.out.2; omega) hv.out
    have HF:=lH hfin
    have hro:=Row.own hd.out hown
    have HR:=lH hro
    clear hfin hro hown
    go_wp2_with (go_at_call 119; (with_reducible refine (trim_any _ acc _ HR.out (by rw[hl.out]; omega)).mono ?_); rintro e w' ⟨v,rfl,hr,hs⟩)
    go_ret
    exact⟨_,rfl,by rw[← HF.out]; assumption,hw.trans ‹_›⟩
end Go.Proofs.YtjmmcnldfkjebaaGreatDoor.Ref02
end
section
namespace Go.Proofs.YtjmmcnldfkjebaaGreatDoor.Ref02
open Go.RowKit
open Dig
theorem of_row (u:Nat) (w:World) (hd:IsDig [u % 4294967296,u / 4294967296]) :
 Row (w.alloc (.cells #[.int .u32 ((u:Int) % 4294967296),.int .u32 ((u:Int) / 4294967296)] 140)) (.slice (some ⟨w.heap.size,0,none⟩) 2 2) [u % 4294967296,u / 4294967296]:=by
 refine⟨hd,some ⟨w.heap.size,0,none⟩,2,rfl,fun _=>⟨w.heap.size,0,rfl,fun i hi => ?_⟩,Nat.le_refl _⟩
 have hi2:i<2:=by simpa using hi
 rcases (show i=0∨i=1 by omega) with rfl | rfl
 · simp[List.getD]
 · simp[List.getD]
theorem of_any (u:Nat) (w:World) (hu:u<18446744073709551616) :
 Calls Tryz.prog 87 #[.int .u64 (u:Int)] w (RetRow (digs u) w):=by
 have e:num [u % 4294967296,u / 4294967296]=u:=by simp only[num]; omega
 have hd:IsDig [u % 4294967296,u / 4294967296]:=by
  intro x hx
  simp at hx
  omega
 have HE:=lH (And.intro e hd)
 clear e hd
 go_enter Tryz.func87,Tryz.ntmps87
 have HR:=lH (of_row u w HE.out.2)
 go_wp2_with (go_at_call 119; refine (trim_any _ [u % 4294967296,u / 4294967296] _ HR.out (by simp)).mono ?_; rw[HE.out.1]; rintro e w' ⟨v,rfl,hr,hs⟩)
 go_ret
 exact⟨_,rfl,‹_›,((Since.refl w).alloc _).trans ‹_›⟩
end Go.Proofs.YtjmmcnldfkjebaaGreatDoor.Ref02
end
section
namespace Go.Proofs.YtjmmcnldfkjebaaGreatDoor.Ref03
open Go.RowKit
open Dig
theorem of_any (n:Int) (w:World) (hn : -9223372036854775808≤n∧n≤9223372036854775807) :
 Calls Tryz.prog 56 #[.int .i64 n] w (RetS (ngB n) (mag n) w):=by
 have HN:=lH hn
 obtain⟨h1,h2⟩:=hn
 by_cases h:n<0
 · obtain⟨u,hu⟩:∃ u:Nat,(u:Int) = -(n+1):=⟨(-(n+1)).toNat,by omega⟩
   have hu2:u<18446744073709551616:=by omega
   have e1:num (digs u)+num [1]=n.natAbs:=by rw[num_digs,num_one]; omega
   have hl:(digs u).length≤10:=Nat.le_trans (digs_len_le (k:=2) (by omega)) (by omega)
   have HL:=lH hl
   have HU:=lH hu2
   have E1:=lH e1
   have es:=sign_mag n true (fun _=>by simp[ngB,h])
   have ES:=lH es
   have hlm:(mag n).length≤10:=Nat.le_trans (digs_len_le (k:=2) (by omega)) (by omega)
   have HLM:=lH hlm
   have R1:=lH (show ∀ W:World,Row (W.alloc (.cells #[.int .u32 1] 140)) (.slice (some ⟨W.heap.size,0,none⟩) 1 1) [1] from fun W=>row_one W 140 1 (by omega))
   have hneg : -(n+1)=(u:Int):=hu.symm
   clear hl e1 es hlm hu hu2
   go_enter Tryz.func56,Tryz.ntmps56
   go_wp2_with (first
    | (go_at_call 87; (with_reducible refine (Ref02.of_any u _ HU.out).mono ?_); rintro e w1 ⟨v1,rfl,hr1,hs1⟩)
    | (go_at_call 83; (with_reducible refine ((Ref02.plus_any v1 (.slice (some ⟨w1.heap.size,0,none⟩) 1 1) (digs u) [1] _ (hr1.since (sA _ _)) (R1.out w1) (by have:=HL.out; omega) (by simp)).mono fun _ _ h=>RetRow.sl h).mono ?_); rw[E1.out]; rintro e w2 ⟨A2,c2,rfl,hr2,hs2⟩)
    | (go_at_call 82; (with_reducible refine (made_any (.slice A2 (digs n.natAbs).length c2) true (mag n) _ hr2 (by have:=HLM.out; omega)).mono ?_); rw[ES.out]; rintro e w3 ⟨rfl,hs3⟩; have hr2:=hr2.since hs3; have hK:=((hs1.alloc _).trans hs2).trans hs3; obtain⟨c0,c1,f0,f1⟩:=keep2 hK))
   refine bodyPost_ret (v:=sv (ngB n) (.slice A2 (digs n.natAbs).length c2)) ?_ rfl ?_
   · simp[results,Tryz.results56,go_sem,c0,c1]
   · exact⟨_,_,rfl,row_set2 ‹Row w3 _ _› hK _ _,since_set2 hK _ _⟩
 · obtain⟨u,rfl⟩:∃ u:Nat,n=(u:Int):=⟨n.toNat,by omega⟩
   have HU:=lH (show u<18446744073709551616 by omega)
   have hl:(digs u).length≤10:=Nat.le_trans (digs_len_le (k:=2) (by omega)) (by omega)
   have HL:=lH hl
   have es:signB false (digs u)=ngB (u:Int):=by simp[signB,ngB]
   have ES:=lH es
   have e2:mag (u:Int)=digs u:=rfl
   rw[e2]
   clear hl es e2
   go_enter Tryz.func56,Tryz.ntmps56
   go_wp2_with (first
    | (go_at_call 87; (with_reducible refine ((Ref02.of_any u _ HU.out).mono fun _ _ h=>RetRow.sl h).mono ?_); rintro e w1 ⟨A2,c2,rfl,hr1,hs1⟩)
    | (go_at_call 82; (with_reducible refine (made_any (.slice A2 (digs u).length c2) false (digs u) _ hr1 (by have:=HL.out; omega)).mono ?_); rw[ES.out]; rintro e w3 ⟨rfl,hs3⟩; have hr1:=hr1.since hs3; have hK:=hs1.trans hs3; obtain⟨c0,c1,f0,f1⟩:=keep2 hK))
   refine bodyPost_ret (v:=sv (ngB (u:Int)) (.slice A2 (digs u).length c2)) ?_ rfl ?_
   · simp[results,Tryz.results56,go_sem,c0,c1]
   · exact⟨_,_,rfl,row_set2 ‹Row w3 _ _› hK _ _,since_set2 hK _ _⟩
end Go.Proofs.YtjmmcnldfkjebaaGreatDoor.Ref03
end
section
namespace Go.Proofs.YtjmmcnldfkjebaaGreatDoor.Ref02
open Go.RowKit
open Dig
theorem scaled_any (va:Value) (xs:List Nat) (d p:Nat) (w:World) (hx:Row w va xs) (lx:xs.length≤100000) (hd:d<4294967296) (hp:p≤100000) :
 Calls Tryz.prog 120 #[va,.int .u64 (d:Int),.int .i64 (p:Int)] w (RetRow (digs (4294967296 ^ p*(num xs*d))) w):=by
 have HX:=lH hx
 have LX:=lH (show xs.length≤1000000 by omega)
 obtain⟨i0,hi,hz0,hz1,hz2⟩:=info_parts info_u32
 obtain⟨dx,A,cA,rfl,_,-⟩:=hx
 have HD:=lH dx
 clear dx
 obtain⟨m,hm⟩:∃ n,n=xs.length:=⟨_,rfl⟩
 rw[← hm] at HX lx ⊢
 have HN:=lH hm
 clear hm
 go_enter Tryz.func120,Tryz.ntmps120
 go_wp2
 go_loopw [7,8] (fun s i wr=>∃ k:Nat,k≤p∧i = .int .i64 k∧wr.ownsRow w.heap.size 140 1 s k (u32s (List.replicate k 0))∧Since w wr) (fun _ i _=>p - (intOf i).toNat)
 case atStart=>exact⟨0,by omega,rfl,World.ownsRow_nil _ _ _ _,Since.refl _⟩
 case round =>
  obtain⟨k,hk,rfl,hown,hw⟩:=hrel
  by_cases hlt:k<p
  · go_wp2_with (first
     | (at_builtin; refine wpList_append_own _ rfl _ _ 105 rfl w.heap.size 140 i0 (.int .u32 0) 1 4 Tryz.underlying105 hi hz0 hz1 hz2 rfl (by decide) _ _ _ rfl (hown.alloc _) ⟨wr.heap.size,0,none⟩ 1 1 [.int .u32 0] rfl rfl ?c1 ?c2 ?c3 ?c4 ?c5 ?_))
    case c1 =>
     intro j u hj
     match j,hj with
     | 0,hj=>simp at hj; subst hj; simp[Addr.add]
    case c2=>intro u hu; simp at hu; subst hu; rfl
    case c3=>unfold maxLen; omega
    case c4=>omega
    case c5=>have:=hw.size; simp; omega
    intro v' w1 hown' hgrow _
    have hs1:Since w w1:=Below.grown (hw.alloc _) hgrow (by have:=hw.size; simp; omega) (fun g hg=>(hown.lt g hg).1)
    have ho1:w1.ownsRow w.heap.size 140 1 v' (k+1) (u32s (List.replicate (k+1) 0)):=by
     rw[List.replicate_succ',u32s_append]; exact hown'
    clear hown' hgrow hown
    go_wp2
    go_roundw
    case rel=>exact⟨k+1,by omega,by go_num,ho1,hs1⟩
    case measure=>simp[intOf]; omega
  · obtain rfl:k=p:=by omega
    have HO:=lH hown
    have HW:=lH hw
    clear hown hw
    go_wp2
    go_loopw [7,9,10] (fun s cv i wr=>∃ (j c:Nat) (acc:List Nat),j≤m+1∧i = .int .i64 j∧cv = .int .u64 c∧c<4294967296∧Hid (acc.length=k+j)∧Hid (IsDig acc)∧wr.ownsRow w.heap.size 140 1 s (k+j) (u32s acc)∧Hid (num acc+4294967296 ^ (k+j)*c=4294967296 ^ k*(num (xs.take j)*d))∧Since w wr) (fun _ _ i _=>m+1 - (intOf i).toNat)
    case atStart=>exact⟨0,0,List.replicate k 0,by omega,rfl,rfl,by omega,by simp[Hid],isDig_noughts k,HO.out,by show _=_; rw[num_noughts,List.take_zero,num,Nat.mul_zero,Nat.zero_mul,Nat.mul_zero],HW.out⟩
    case round =>
     obtain⟨j,c,acc,hj,rfl,rfl,hc,hl,hda,hown,hv,hw⟩:=hrel
     clear HO HW
     by_cases hlt2:j<m+1
     · obtain⟨x,hx⟩:∃ x,x=xs.getD j 0:=⟨_,rfl⟩
       have hxb:x<4294967296:=by rw[hx]; exact getD_lt HD.out j
       have HK:=lH hx
       have hstep:=scaled_step (d:=d) hl.out hv.out
       rw[← hx] at hstep
       have HS:=lH hstep
       clear hstep hx
       obtain⟨q,hq⟩:∃ q:Nat,q=x*d:=⟨_,rfl⟩
       have hfit:=scaled_fits hxb hd hc
       rw[← hq] at hfit HS
       have hq2:(x:Int)*(d:Int)=(q:Int):=by rw[hq]; simp
       have HQ:=lH hq
       clear hq
       obtain⟨hf1,hf2⟩:=hfit
       go_wp2_with (first
        | (go_at_call 118; (with_reducible refine (digit_any (.slice A m cA) xs j _ (HX.out.since hw) LX.out).mono ?_); rw[← HK.out]; rintro e w' ⟨rfl,rfl⟩)
        | (at_builtin; refine wpList_append_own _ rfl _ _ 105 rfl w.heap.size 140 i0 (.int .u32 0) 1 4 Tryz.underlying105 hi hz0 hz1 hz2 rfl (by decide) _ _ _ rfl (hown.alloc _) ⟨wr.heap.size,0,none⟩ 1 1 [.int .u32 (((q:Int)+(c:Int)) % 4294967296)] rfl rfl ?c1b ?c2b ?c3b ?c4b ?c5b ?_))
       case c1b =>
        intro j u hj
        match j,hj with
        | 0,hj=>simp at hj; subst hj; simp[Addr.add]
       case c2b=>intro u hu; simp at hu; subst hu; rfl
       case c3b=>unfold maxLen; omega
       case c4b=>omega
       case c5b=>have:=hw.size; simp; omega
       intro v' w1 hown' hgrow _
       have hs1:Since w w1:=Below.grown (hw.alloc _) hgrow (by have:=hw.size; simp; omega) (fun g hg=>(hown.lt g hg).1)
       have ho1:w1.ownsRow w.heap.size 140 1 v' (k+j+1) (u32s (acc ++ [(q+c) % 4294967296])):=by
        rw[u32s_append,u32s_one,show (((q+c) % 4294967296:Nat):Int)=((q:Int)+(c:Int)) % 4294967296 by omega]
        exact hown'
       clear hown' hgrow hown
       go_wp2
       go_roundw
       case rel=>exact⟨j+1,(q+c) / 4294967296,acc ++ [(q+c) % 4294967296],by omega,by go_num,by go_num,by omega,by show _=_; rw[List.length_append,hl.out]; rfl,isDig_snoc hda.out (by omega),ho1,HS.out,hs1⟩
       case measure=>simp[intOf]; omega
     · obtain rfl:j=m+1:=by omega
       have hn:=HN.out
       have hfin:num acc=4294967296 ^ k*(num xs*d):=scaled_end (c:=c) HD.out hd (by rw[← hn]; exact hv.out)
       have HF:=lH hfin
       have hro:=Row.own hda.out hown
       have HR:=lH hro
       clear hfin hro hown hn
       go_wp2_with (go_at_call 119; (with_reducible refine (trim_any _ acc _ HR.out (by rw[hl.out]; omega)).mono ?_); rintro e w' ⟨v,rfl,hr,hs⟩)
       go_ret
       exact⟨_,rfl,by rw[← HF.out]; assumption,hw.trans ‹_›⟩
end Go.Proofs.YtjmmcnldfkjebaaGreatDoor.Ref02
end
