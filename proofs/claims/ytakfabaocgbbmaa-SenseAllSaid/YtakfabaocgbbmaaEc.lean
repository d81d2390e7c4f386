/- Layer 9 (set): ranges as they lie in memory; Right, the landed one and the document's. -/
import Derived.Deep.DeepCutAuto
import Derived.Deep.RegionHeld3
import Derived.Test.YtakfabaocgbbmaaAp6
import Derived.Test.YtakfabaocgbbmaaReg
set_option maxHeartbeats 1000000
set_option maxRecDepth 20000
namespace Go.Proofs.Ytakfabaocgbbmaa.Zs
open Go.RowKit
set_option linter.unusedVariables false
set_option linter.unusedSimpArgs false
open Dig Lx Tk Ti
def Bd (l:List Rn):Prop:=∀ r ∈ l,fits r.1∧fits r.2
theorem drop_at {l:List Rn} {k:Nat} (h:k<l.length):l.drop k=l[k] :: l.drop (k+1):=List.drop_eq_getElem_cons h
theorem okF_no1 {b:Int} {r:Rn} {l:List Rn} (h:r.1<b):okF b (r :: l)=false:=by
 cases h2:okF b (r :: l) with
 | false=>rfl
 | true=>rw[okF_cons] at h2; omega
theorem okF_no2 {b:Int} {r:Rn} {l:List Rn} (h:r.1>r.2):okF b (r :: l)=false:=by
 cases h2:okF b (r :: l) with
 | false=>rfl
 | true=>rw[okF_cons] at h2; omega
theorem okF_no3 {b:Int} {r:Rn} {l:List Rn} (h:r.2>mx):okF b (r :: l)=false:=by
 cases h2:okF b (r :: l) with
 | false=>rfl
 | true=>rw[okF_cons] at h2; omega
theorem okF_yes {b:Int} {r:Rn} {l:List Rn} (h1:¬ r.1<b) (h2:¬ r.1>r.2) (h3:¬ r.2>mx):okF b (r :: l)=okF (r.2+2) l:=by
 rw[okF,show decide (b≤r.1)=true by simp; omega,show decide (r.1≤r.2)=true by simp; omega,show decide (r.2≤mx)=true by simp only[decide_eq_true_eq]; omega]; rfl
def RetT (r:Bool) (w:World) (e:Ending) (w':World):Prop:=e = .returned (.bool r)∧Since w w'
theorem RetT.of {r r':Bool} {w w':World} (h:r=r') (k:Since w w'):RetT r' w (.returned (.bool r)) w':=⟨by rw[h],k⟩
def rcells (l:List Rn):List Value:=l.flatMap fun r => [.int .i64 r.1,.int .i64 r.2]
theorem rcells_rws (w:World):∀ l:List Rn,Rws 2 (QR w) l (rcells l)
 | [] => .nil
 | r :: l=>by
  have h:Rws 2 (QR w) ([] ++ [r]) ([] ++ [.int .i64 r.1,.int .i64 r.2]):=Rws.snoc .nil rfl rfl
  exact h.append (rcells_rws w l)
def Rw (w0 w:World) (v:Value) (xs:List Rn):Prop:=w.ownsRow w0.heap.size 36 2 v xs.length (rcells xs)∧Since w0 w
theorem Rw.nil {w0 w:World} (h:Since w0 w):Rw w0 w (.slice none 0 0) []:=⟨World.ownsRow_nil _ _ _ _,h⟩
theorem Rw.since {w0 w w':World} {v:Value} {xs:List Rn} (h:Rw w0 w v xs) (k:Since w w'):Rw w0 w' v xs:=⟨owns_since h.1 k,h.2.trans k⟩
theorem Rw.sl {w0 w:World} {v:Value} {xs:List Rn} (h:Rw w0 w v xs):Sl 2 QR w v xs:=Sl.own h.1 (rcells_rws w xs) rfl
theorem Rw.form {w0 w:World} {v:Value} {xs:List Rn} (h:Rw w0 w v xs):∃ A c,v = .slice A xs.length c:=h.sl.form
def Keep (v:Value) (W w':World):Prop:=∀ b cs t,Bx W b cs t→v.ownBlock≠some b→Bx w' b cs t
theorem Keep.refl (v:Value) (W:World):Keep v W W:=fun b cs t h _=>h
theorem Keep.of {v:Value} {W w':World} (h:W.grownBy w' v.ownBlock):Keep v W w':=fun b cs t h1 h2=>by
 have hl:b<W.heap.size:=by
  unfold Bx at h1
  apply Decidable.byContradiction; intro hn
  rw[Array.getElem?_eq_none (by omega)] at h1; cases h1
 unfold Bx at *
 rw[h.block b hl (fun e=>h2 e.symm)]; exact h1
theorem right_any (v:Value) (l:List Rn) (w:World) (h:Sl 2 QR w v l) (hl:l.length≤1100000) (hb:Bd l) :
 Calls Try.prog 106 #[v] w (RetT (right l) w):=by
 obtain⟨A,c,rfl⟩:=h.form
 obtain⟨n,hn⟩:∃ n,n=l.length:=⟨_,rfl⟩
 rw[← hn] at h hl ⊢
 have H:=Lib.hid h
 have HN:=Lib.hid hn
 have HB:=Lib.hid hb
 obtain⟨R,hR⟩:∃ R,R=right l:=⟨_,rfl⟩
 rw[← hR]
 have HR:=Lib.hid hR
 clear h hn hb hR
 go_enter Try.func106,Try.ntmps106
 go_wp2
 go_loopw [3,8] (fun s i wr=>∃ (k:Nat) (b:Int),i = .int .i64 (k:Int)∧s = .int .i64 b∧k≤n ∧ -1048576≤b∧b≤1048578∧Hid (okF b (l.drop k)=R)∧Hid (Since w wr)) (fun _ i _=>n - (intOf i).toNat)
 case atStart=>exact⟨0,-1048576,rfl,rfl,Nat.zero_le _,by omega,by omega,HR.out.symm,Since.refl _⟩
 case round =>
  obtain⟨k,b,rfl,rfl,hk,hb1,hb2,HE,HW⟩:=hrel
  by_cases hkn:k<n
  · have hkl:k<l.length:=by have:=HN.out; omega
    obtain⟨g,o,rfl,e0,e1⟩:=elR (H.out.since stR HW.out) hkl
    have hst:=HE.out
    rw[drop_at hkl] at hst
    have hbz:=HB.out l[k] (List.getElem_mem hkl)
    generalize l[k]=x at *
    obtain⟨lo,hi⟩:=x
    simp only[fits] at hst hbz e0 e1
    have ka:=Lib.hid (sA wr (.cells #[.int .i64 lo,.int .i64 hi] 36))
    have ST:=Lib.hid hst
    obtain⟨r0,r1⟩:=(Bx.fresh wr #[.int .i64 lo,.int .i64 hi] 36).two
    clear hst hkl HE
    by_cases c1:lo<b
    · have HE:=Lib.hid ((okF_no1 c1).symm.trans ST.out)
      go_wp2
      go_ret
      exact .of HE.out (HW.out.trans ka.out)
    · by_cases c2:lo>hi
      · have HE:=Lib.hid ((okF_no2 c2).symm.trans ST.out)
        go_wp2
        go_ret
        exact .of HE.out (HW.out.trans ka.out)
      · by_cases c3:hi>1048576
        · have HE:=Lib.hid ((okF_no3 c3).symm.trans ST.out)
          go_wp2
          go_ret
          exact .of HE.out (HW.out.trans ka.out)
        · have HE:=Lib.hid ((okF_yes c1 c2 c3).symm.trans ST.out)
          go_wp2
          go_roundw
          case rel=>exact⟨k+1,hi+2,by go_num,by go_num,by omega,by omega,by omega,HE.out,HW.out.trans ka.out⟩
          case measure=>simp[intOf]; omega
  · obtain rfl:k=n:=by omega
    have HE2:=Lib.hid (show true=R by rw[← HE.out,List.drop_of_length_le (by have:=HN.out; omega)]; rfl)
    go_wp2
    go_ret
    exact .of HE2.out HW.out
theorem within_any (x:Int) (w:World):Calls Try.prog 87 #[.int .i64 x] w fun e w'=>e = .returned (.bool (within x))∧w'=w:=by
 by_cases c1:x ≥ -1048576
 · by_cases c2:x≤1048576
   · have e:within x=true:=by simp only[within,mx,Bool.and_eq_true,decide_eq_true_eq]; omega
     rw[e]
     go_enter Try.func87,Try.ntmps87
     go_wp2
     go_ret
     exact⟨rfl,rfl⟩
   · have e:within x=false:=by simp only[within,mx,Bool.and_eq_false_iff,decide_eq_false_iff_not]; omega
     rw[e]
     go_enter Try.func87,Try.ntmps87
     go_wp2
     go_ret
     exact⟨rfl,rfl⟩
 · have e:within x=false:=by simp only[within,mx,Bool.and_eq_false_iff,decide_eq_false_iff_not]; omega
   rw[e]
   go_enter Try.func87,Try.ntmps87
   go_wp2
   go_ret
   exact⟨rfl,rfl⟩
end Go.Proofs.Ytakfabaocgbbmaa.Zs
