/- What the document's own Product gives back: the digits of the product. What the document's own Times gives bac -/
import Derived.Test.YtjmmcnldfkjebaaGreatDoorQbl
import Derived.Deep.RegionHeld3
set_option maxHeartbeats 1000000
set_option maxRecDepth 100000
set_option linter.unusedVariables false
set_option linter.unusedSimpArgs false
section
namespace Go.Proofs.YtjmmcnldfkjebaaGreatDoor.Ref02
open Go.RowKit
open Dig
theorem num_take_len {ys:List Nat} (hy:IsDig ys) (k:Nat):num (ys.take k)<4294967296 ^ k:=by
 have h:=num_lt (isDig_take hy k)
 exact Nat.lt_of_lt_of_le h (Nat.pow_le_pow_right (by omega) (List.length_take_le _ _))
theorem part_len {xs ys:List Nat} (hx:IsDig xs) (hy:IsDig ys) (k:Nat):(digs (num xs*num (ys.take k))).length≤xs.length+k:=by
 apply digs_len_le
 rw[Nat.pow_add]
 have h1:=num_lt hx
 have h2:=num_take_len hy k
 rcases Nat.eq_zero_or_pos (num (ys.take k)) with h | h
 · rw[h,Nat.mul_zero]; exact Nat.mul_pos (Nat.pow_pos (by omega)) (Nat.pow_pos (by omega))
 · exact Nat.lt_of_lt_of_le (Nat.mul_lt_mul_of_pos_right h1 h) (Nat.mul_le_mul_left _ (Nat.le_of_lt h2))
theorem scal_len {xs:List Nat} (hx:IsDig xs) {d:Nat} (hd:d<4294967296) (k:Nat):(digs (4294967296 ^ k*(num xs*d))).length≤k+(xs.length+1):=by
 apply digs_len_le
 rw[Nat.pow_add,Nat.pow_succ]
 have h1:=num_lt hx
 refine Nat.mul_lt_mul_of_pos_left ?_ (Nat.pow_pos (by omega))
 rcases Nat.eq_zero_or_pos d with h | h
 · rw[h,Nat.mul_zero]; exact Nat.mul_pos (Nat.pow_pos (by omega)) (by omega)
 · exact Nat.lt_of_lt_of_le (Nat.mul_lt_mul_of_pos_right h1 h) (Nat.mul_le_mul_left _ (Nat.le_of_lt hd))
theorem product_any (va vb:Value) (xs ys:List Nat) (w:World) (hx:Row w va xs) (hy:Row w vb ys) (lx:xs.length≤10000) (ly:ys.length≤10000) :
 Calls Tryz.prog 86 #[va,vb] w (RetRow (digs (num xs*num ys)) w):=by
 have HX:=lH hx
 have LX:=lH (show xs.length≤10000 by omega)
 obtain⟨dx,A,cA,rfl,_,-⟩:=hx
 obtain⟨dy,B,cB,rfl,hcy,-⟩:=hy
 have HD:=lH (And.intro dx dy)
 have HC:=lH hcy
 clear dx dy hcy lx
 obtain⟨n1,hn1⟩:∃ n,n=xs.length:=⟨_,rfl⟩
 obtain⟨m,hm⟩:∃ n,n=ys.length:=⟨_,rfl⟩
 rw[← hm] at ly ⊢
 rw[← hn1] at HX ⊢
 have HN:=lH (And.intro hn1 hm)
 clear hn1 hm
 go_enter Tryz.func86,Tryz.ntmps86
 go_wp2
 go_loopw [5,6] (fun s i wr=>∃ k:Nat,k≤m∧i = .int .i64 k∧Row wr s (digs (num xs*num (ys.take k)))∧Since w wr) (fun _ i _=>m - (intOf i).toNat)
 case atStart=>exact⟨0,by omega,rfl,by rw[List.take_zero,num,Nat.mul_zero]; exact Row.nil _,Since.refl _⟩
 case round =>
  obtain⟨k,hk,rfl,hrow,hw⟩:=hrel
  by_cases hlt:k<m
  · have hkl:k<ys.length:=by have:=HN.out.2; omega
    obtain⟨b,o,rfl,hcc⟩:=HC.out (by omega)
    have hcell:=(Below.cell hw (World.block_lt_of_cell? _ _ (hcc k hkl))).trans (hcc k hkl)
    have e:=num_take_succ ys k
    obtain⟨y,hy⟩:∃ y,y=ys.getD k 0:=⟨_,rfl⟩
    have hyb:y<4294967296:=by rw[hy]; exact getD_lt HD.out.2 k
    rw[← hy] at hcell e
    have l1:=lH (part_len HD.out.1 HD.out.2 k)
    have l2:=lH (scal_len HD.out.1 hyb k)
    have E:=lH e
    have HR:=lH hrow
    clear hcc hy e hrow hkl
    go_wp2_with (first
     | (go_at_call 120; (with_reducible refine (scaled_any (.slice A n1 cA) xs y k _ (HX.out.since hw) (by have:=LX.out; omega) hyb (by omega)).mono ?_); rintro e w1 ⟨v1,rfl,hr1,hs1⟩)
     | (go_at_call 83; (with_reducible refine (plus_any _ v1 (digs (num xs*num (ys.take k))) (digs (4294967296 ^ k*(num xs*y))) w1 (HR.out.since hs1) hr1 (by have:=l1.out; have:=LX.out; omega) (by have:=l2.out; have:=LX.out; omega)).mono ?_); rintro e w2 ⟨v2,rfl,hr2,hs2⟩; clear hr1))
    go_roundw
    case rel =>
     refine⟨k+1,by omega,by go_num,?_,(hw.trans ‹Since wr _›).trans ‹_›⟩
     rw[E.out,Nat.mul_add,show num xs*(4294967296 ^ k*y)=4294967296 ^ k*(num xs*y) from Nat.mul_left_comm _ _ _]
     simpa only [num_digs] using ‹Row _ _ (digs (num (digs _)+num (digs _)))›
    case measure=>simp[intOf]; omega
  · obtain rfl:k=m:=by omega
    go_wp2
    go_ret
    refine⟨_,rfl,?_,hw⟩
    have:=HN.out.2
    rw[List.take_of_length_le (by omega)] at hrow
    exact hrow
end Go.Proofs.YtjmmcnldfkjebaaGreatDoor.Ref02
end
section
namespace Go.Proofs.YtjmmcnldfkjebaaGreatDoor.Ref03
open Go.RowKit
open Dig
theorem times_any (A0 A1:Option Addr) (c0 c1:Nat) (na nb:Bool) (xs ys:List Nat) (w:World) (hx:Row w (.slice A0 xs.length c0) xs) (hy:Row w (.slice A1 ys.length c1) ys) (lx:xs.length≤1000) (ly:ys.length≤1000) :
 Calls Tryz.prog 55 #[sv na (.slice A0 xs.length c0),sv nb (.slice A1 ys.length c1)] w (RetS (signB (na != nb) (digs (num xs*num ys))) (digs (num xs*num ys)) w):=by
 have H:=lH (And.intro hx hy)
 have HL:=lH (show (digs (num xs*num ys)).length≤1000000 by have:=Ref02.prod_len hx.dig hy.dig; omega)
 have LL:=lH (And.intro lx ly)
 clear hx hy lx ly
 obtain⟨n0,hn0⟩:∃ n,n=xs.length:=⟨_,rfl⟩
 obtain⟨n1,hn1⟩:∃ n,n=ys.length:=⟨_,rfl⟩
 rw[← hn0] at H ⊢
 rw[← hn1] at H ⊢
 clear hn0 hn1
 obtain⟨W0,hW0⟩:∃ W0,W0=((w.alloc (.cells #[.bool na,.slice A0 n0 c0] 107)).alloc (.cells #[.bool nb,.slice A1 n1 c1] 107)).alloc (.cells #[.bool false,.slice none 0 0] 107):=⟨_,rfl⟩
 have HW:=lH hW0
 have hold:Hid (∀ W:World,Since W0 W→(W.cell? ⟨w.heap.size,0,none⟩=some (.bool na)∧W.cell? ⟨w.heap.size,1,none⟩=some (.slice A0 n0 c0)∧W.cell? ⟨w.heap.size+1,0,none⟩=some (.bool nb)∧W.cell? ⟨w.heap.size+1,1,none⟩=some (.slice A1 n1 c1))∧Since w W):=fun W h=>⟨hold2 (hW0 ▸ h),by rw[hW0] at h; exact ((((Since.refl w).alloc _).alloc _).alloc _).trans h⟩
 have hk3:Hid (∀ W:World,Since W0 W→W.cell? ⟨w.heap.size+1+1,0,none⟩=some (.bool false)∧W.cell? ⟨w.heap.size+1+1,1,none⟩=some (.slice none 0 0)∧W.frozen? ⟨w.heap.size+1+1,0,none⟩=false∧W.frozen? ⟨w.heap.size+1+1,1,none⟩=false):=fun W h=>keep3 (hW0 ▸ h)
 have hb3:Hid (∀ W:World,Since W0 W→Since (((w.alloc (.cells #[.bool na,.slice A0 n0 c0] 107)).alloc (.cells #[.bool nb,.slice A1 n1 c1] 107)).alloc (.cells #[.bool false,.slice none 0 0] 107)) W):=fun W h=>hW0 ▸ h
 have since_set3:∀ {W:World} {u0 u1:Value},Since W0 W→Since w ((W.setCell ⟨w.heap.size+1+1,0,none⟩ u0).setCell ⟨w.heap.size+1+1,1,none⟩ u1):=fun h=>by rw[hW0] at h; exact ((((((Since.refl w).alloc _).alloc _).alloc _).trans h).set (by show w.heap.size≤w.heap.size+1+1; omega) _).set (by show w.heap.size≤w.heap.size+1+1; omega) _
 have hsg:(!na == nb)=(na != nb):=by cases na <;> cases nb <;> rfl
 have hS0:Since w W0:=by rw[hW0]; exact (((Since.refl w).alloc _).alloc _).alloc _
 clear hW0
 go_enter Tryz.func55,Tryz.ntmps55
 go_wp2
 rw[← HW.out]
 have hh:Hid (∀ W:World,(W.cell? ⟨w.heap.size,0,none⟩=some (.bool na)∧W.cell? ⟨w.heap.size,1,none⟩=some (.slice A0 n0 c0)∧W.cell? ⟨w.heap.size+1,0,none⟩=some (.bool nb)∧W.cell? ⟨w.heap.size+1,1,none⟩=some (.slice A1 n1 c1))∧Since w W→Since w W):=fun W h=>h.2
 go_region_held3 (fun W=>(W.cell? ⟨w.heap.size,0,none⟩=some (.bool na)∧W.cell? ⟨w.heap.size,1,none⟩=some (.slice A0 n0 c0)∧W.cell? ⟨w.heap.size+1,0,none⟩=some (.bool nb)∧W.cell? ⟨w.heap.size+1,1,none⟩=some (.slice A1 n1 c1))∧Since w W)
  (first | exact hold.out _ (Since.refl _) | exact hold.out _ (Since.drew (Since.refl _)) | exact hold.out _ ‹Since W0 _› | exact⟨by go_simp,since_set3 ‹Since W0 _›⟩)
  (first
   | (go_at_call 86; (with_reducible refine ((Ref02.product_any (.slice A0 n0 c0) (.slice A1 n1 c1) xs ys _ (H.out.1.since (hh.out _ (by assumption))) (H.out.2.since (hh.out _ (by assumption))) (by have:=LL.out; omega) (by have:=LL.out; omega)).mono fun _ _ h=>RetRow.sl h).mono ?_); rintro e w1 ⟨A2,c2,rfl,hr1,hs1⟩; have hK1:=Since.trans (Since.drew (Since.refl W0)) hs1)
   | (go_at_call 82; (with_reducible refine (made_any (.slice A2 (digs (num xs*num ys)).length c2) _ (digs (num xs*num ys)) _ hr1 HL.out).mono ?_); rintro e w2 ⟨rfl,hs2⟩; have hK2:=Since.trans hK1 hs2; have hr2:=hr1.since hs2; obtain⟨q0,q1,q2,q3⟩:=hk3.out _ hK2))
 go_wp2
 refine bodyPost_ret (v:=sv (signB (na != nb) (digs (num xs*num ys))) (.slice A2 (digs (num xs*num ys)).length c2)) ?_ rfl ?_
 · simp[results,Tryz.results55,go_sem,q0,q1]
 · exact⟨_,_,rfl,row_set3 hr2 (hb3.out _ hK2) _ _,since_set3 hK2⟩
end Go.Proofs.YtjmmcnldfkjebaaGreatDoor.Ref03
end
section
namespace Go.Proofs.YtjmmcnldfkjebaaGreatDoor.Ref02
open Go.RowKit
open Dig
theorem minus_any (va vb:Value) (xs ys:List Nat) (w:World) (hx:Row w va xs) (hy:Row w vb ys) (lx:xs.length≤100000) (ly:ys.length≤xs.length) (hle:num ys≤num xs) :
 Calls Tryz.prog 85 #[va,vb] w (RetRow (digs (num xs - num ys)) w):=by
 have HX:=lH hx
 have HY:=lH hy
 have LX:=lH (show xs.length≤1000000 by omega)
 have LY:=lH (show ys.length≤1000000 by omega)
 have LE:=lH (And.intro ly hle)
 clear hle
 obtain⟨i0,hi,hz0,hz1,hz2⟩:=info_parts info_u32
 obtain⟨dx,A,cA,rfl,_,-⟩:=hx
 obtain⟨dy,B,cB,rfl,_,-⟩:=hy
 have HD:=lH (And.intro dx dy)
 clear dx dy
 obtain⟨m,hm⟩:∃ n,n=xs.length:=⟨_,rfl⟩
 obtain⟨n2,hn2⟩:∃ n,n=ys.length:=⟨_,rfl⟩
 rw[← hm] at HX lx ly ⊢
 rw[← hn2] at HY ly ⊢
 have HN:=lH (And.intro hm hn2)
 clear hm hn2 ly
 go_enter Tryz.func85,Tryz.ntmps85
 go_wp2
 go_loopw [5,6,7] (fun s cv i wr=>∃ (k c:Nat) (acc:List Nat),k≤m∧i = .int .i64 k∧cv = .int .u64 c∧c≤1∧Hid (acc.length=k)∧Hid (IsDig acc)∧wr.ownsRow w.heap.size 140 1 s k (u32s acc)∧Hid (num acc+num (ys.take k)=num (xs.take k)+4294967296 ^ k*c)∧Since w wr) (fun _ _ i _=>m - (intOf i).toNat)
 case atStart=>exact⟨0,0,[],by omega,rfl,rfl,by omega,rfl,isDig_nil,World.ownsRow_nil _ _ _ _,by simp[Hid,num],Since.refl _⟩
 case round =>
  obtain⟨k,c,acc,hk,rfl,rfl,hc,hl,hd,hown,hv,hw⟩:=hrel
  by_cases hlt:k<m
  · obtain⟨x,hx⟩:∃ x,x=xs.getD k 0:=⟨_,rfl⟩
    obtain⟨y,hy⟩:∃ y,y=ys.getD k 0:=⟨_,rfl⟩
    have hxb:x<4294967296:=by rw[hx]; exact getD_lt HD.out.1 k
    have hyb:y<4294967296:=by rw[hy]; exact getD_lt HD.out.2 k
    have HK:=lH (And.intro hx hy)
    have hstep:=minus_step hl.out (hx ▸ hxb) (hy ▸ hyb) hc hv.out
    rw[← hx,← hy] at hstep
    have HS:=lH hstep
    clear hstep
    clear hx hy
    go_wp2_with (first
     | (go_at_call 118; (with_reducible refine (digit_any (.slice A m cA) xs k _ (HX.out.since hw) LX.out).mono ?_); rw[← HK.out.1]; rintro e w' ⟨rfl,rfl⟩)
     | (go_at_call 118; (with_reducible refine (digit_any (.slice B n2 cB) ys k _ (HY.out.since hw) LY.out).mono ?_); rw[← HK.out.2]; rintro e w' ⟨rfl,rfl⟩)
     | (at_builtin; refine wpList_append_own _ rfl _ _ 105 rfl w.heap.size 140 i0 (.int .u32 0) 1 4 Tryz.underlying105 hi hz0 hz1 hz2 rfl (by decide) _ _ _ rfl (hown.alloc _) ⟨wr.heap.size,0,none⟩ 1 1 [.int .u32 ((4294967296+(x:Int) - (y:Int) - (c:Int)) % 4294967296)] rfl rfl ?c1 ?c2 ?c3 ?c4 ?c5 ?_))
    case c1 =>
     intro j u hj
     match j,hj with
     | 0,hj=>simp at hj; subst hj; simp[Addr.add]
    case c2=>intro u hu; simp at hu; subst hu; rfl
    case c3=>unfold maxLen; omega
    case c4=>omega
    case c5=>have:=hw.size; simp; omega
    intro v' w1 hown' hgrow _
    have hs1:Since w w1:=Below.grown (hw.alloc _) hgrow (by have:=hw.size; simp; omega) (fun g hg=>(hown.lt g hg).1)
    have ho1:w1.ownsRow w.heap.size 140 1 v' (k+1) (u32s (acc ++ [(4294967296+x - y - c) % 4294967296])):=by
     rw[u32s_append,u32s_one,show (((4294967296+x - y - c) % 4294967296:Nat):Int)=(4294967296+(x:Int) - (y:Int) - (c:Int)) % 4294967296 by omega]
     exact hown'
    clear hown' hgrow hown
    go_wp2
    go_roundw
    case rel=>exact⟨k+1,1 - (4294967296+x - y - c) / 4294967296,acc ++ [(4294967296+x - y - c) % 4294967296],by omega,by go_num,by go_num,by omega,by show _=_; rw[List.length_append,hl.out]; rfl,isDig_snoc hd.out (by omega),ho1,HS.out,hs1⟩
    case measure=>simp[intOf]; omega
  · obtain rfl:k=m:=by omega
    have hn:=HN.out.1
    have hfin:num acc=num xs - num ys:=minus_end HD.out.1 hd.out (by rw[hl.out,hn]) LE.out.1 LE.out.2 (by rw[← hn]; exact hv.out)
    have HF:=lH hfin
    have hro:=Row.own hd.out hown
    have HR:=lH hro
    clear hfin hro hown hn
    go_wp2_with (go_at_call 119; (with_reducible refine (trim_any _ acc _ HR.out (by rw[hl.out]; omega)).mono ?_); rintro e w' ⟨v,rfl,hr,hs⟩)
    go_ret
    exact⟨_,rfl,by rw[← HF.out]; assumption,hw.trans ‹_›⟩
end Go.Proofs.YtjmmcnldfkjebaaGreatDoor.Ref02
end
section
namespace Go.Proofs.YtjmmcnldfkjebaaGreatDoor.Ref02
open Go.RowKit
open Dig
theorem less_any (va vb:Value) (xs ys:List Nat) (w:World) (hx:Row w va xs) (hy:Row w vb ys) (lx:xs.length≤1000000) (ly:ys.length≤1000000) :
 Calls Tryz.prog 84 #[va,vb] w fun e w'=>e = .returned (.bool (lessB xs ys))∧Since w w':=by
 obtain⟨dx,A,c,rfl,hcx,-⟩:=hx
 obtain⟨dy,B,c',rfl,hcy,-⟩:=hy
 by_cases hl:xs.length=ys.length
 · have HX:=lH hcx
   have HY:=lH hcy
   have HL:=lH hl
   have HD:=lH (And.intro dx dy)
   clear hcx hcy ly dx dy
   rw[← hl]
   clear hl
   obtain⟨n,hn⟩:∃ n,n=xs.length:=⟨_,rfl⟩
   rw[← hn] at lx ⊢
   have HN:=lH hn
   clear hn
   obtain⟨R,hR⟩:∃ R,R=lessB xs ys:=⟨_,rfl⟩
   rw[← hR]
   have HR:=lH hR
   clear hR
   go_enter Tryz.func84,Tryz.ntmps84
   go_wp2
   go_loopw [5] (fun i wr=>∃ k:Nat,k≤n∧i = .int .i64 ((k:Int) - 1)∧Hid (xs.drop k=ys.drop k)∧Since w wr) (fun i _=>(intOf i+1).toNat)
   case atStart=>exact⟨n,Nat.le_refl _,rfl,(by have h1:=HN.out; have h2:=HL.out; show xs.drop n=ys.drop n; rw[List.drop_of_length_le (by omega),List.drop_of_length_le (by omega)]),Since.refl _⟩
   case round =>
    obtain⟨k,hk,rfl,heq,hw⟩:=hrel
    rcases k with _ | j
    · go_wp2
      go_ret
      refine⟨?_,hw⟩
      have:R=false:=by
       have h:=heq.out
       simp at h
       rw[HR.out,lessB,if_pos HL.out,h]
       simp
      exact ret_bool this.symm
    · have e:((j+1:Nat):Int) - 1=(j:Int):=by omega
      rw[e]
      clear e
      have hn:=HN.out
      obtain⟨b,o,rfl,hc1⟩:=HX.out (by omega)
      obtain⟨b',o',rfl,hc2⟩:=HY.out (by rw[← HL.out]; omega)
      have g1:wr.cell? ⟨b,o+j,none⟩=some (.int .u32 ((xs.getD j 0:Nat):Int)):=(Below.cell hw (World.block_lt_of_cell? _ _ (hc1 j (by omega)))).trans (hc1 j (by omega))
      have g2:wr.cell? ⟨b',o'+j,none⟩=some (.int .u32 ((ys.getD j 0:Nat):Int)):=(Below.cell hw (World.block_lt_of_cell? _ _ (hc2 j (by rw[← HL.out]; omega)))).trans (hc2 j (by rw[← HL.out]; omega))
      obtain⟨x,hx⟩:∃ x,x=xs.getD j 0:=⟨_,rfl⟩
      obtain⟨y,hy⟩:∃ y,y=ys.getD j 0:=⟨_,rfl⟩
      rw[← hx] at g1
      rw[← hy] at g2
      have HXX:=lH (And.intro hx hy)
      clear hc1 hc2 hx hy hn
      have hj:j<n:=by omega
      by_cases hxy:((x:Int) != (y:Int))=true
      · by_cases hlt:x<y
        · have this:R=true:=by
           rw[HR.out,lessB,if_pos HL.out,decide_eq_true]
           exact less_at HD.out.1 HL.out (j:=j) (by have:=HN.out; omega) heq.out (by have h1:=HXX.out.1; have h2:=HXX.out.2; omega)
          go_wp2
          go_quiet (fail)
          go_wp2
          go_quiet (fail)
          go_wp2
          go_ret
          exact⟨ret_bool this.symm,(hw.drewN _).drewN _⟩
        · have this:R=false:=by
           rw[HR.out,lessB,if_pos HL.out,decide_eq_false]
           have:=less_at HD.out.2 HL.out.symm (j:=j) (by have:=HN.out; have:=HL.out; omega) heq.out.symm (by have h1:=HXX.out.1; have h2:=HXX.out.2; simp at hxy; omega)
           omega
          go_wp2
          go_quiet (fail)
          go_wp2
          go_quiet (fail)
          go_wp2
          go_ret
          exact⟨ret_bool this.symm,(hw.drewN _).drewN _⟩
      · have hxy':((x:Int) != (y:Int))=false:=by simpa using hxy
        clear hxy
        go_wp2
        go_quiet (fail)
        go_wp2
        go_roundw
        case rel =>
         refine⟨j,by omega,rfl,?_,hw.drewN _⟩
         have h1:=HXX.out.1
         have h2:=HXX.out.2
         simp at hxy'
         exact drop_more_eq HL.out (by have:=HN.out; omega) heq.out (by omega)
        case measure=>simp[intOf] <;> omega
 · have hg:((xs.length:Int) != (ys.length:Int))=true:=by simp; omega
   have HR:lessB xs ys=decide (xs.length<ys.length):=by
    rw[lessB,if_neg hl]
   rw[HR]
   clear hcx hcy HR
   go_enter Tryz.func84,Tryz.ntmps84
   go_wp2
   go_ret
   exact⟨rfl,Since.refl _⟩
end Go.Proofs.YtjmmcnldfkjebaaGreatDoor.Ref02
end
