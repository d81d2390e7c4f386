/- Layer 9 (set): what is asked of a set: the landed Next, Has. -/
import Derived.Test.YtakfabaocgbbmaaE0
set_option maxHeartbeats 1000000
set_option maxRecDepth 20000
namespace Go.Proofs.Ytakfabaocgbbmaa.Zs
open Go.RowKit
set_option linter.unusedVariables false
set_option linter.unusedSimpArgs false
open Dig Lx Tk Ti
theorem next_any (v:Value) (l:List Rn) (x:Int) (w:World) (h:Sl 2 QR w v l) (hl:l.length≤1100000) (hb:Bd l) (hx:fits x) :
 Calls Try.prog 104 #[v,.int .i64 x] w (RetN (next l x) w):=by
 obtain⟨A,c,rfl⟩:=h.form
 cases hr:right l with
 | false =>
  have RA:=Lib.hid (right_at h hl hb hr)
  have e:next l x=none:=by rw[next,if_neg (by simp[hr])]
  rw[e]
  clear h hb hr e
  go_enter Try.func104,Try.ntmps104
  go_wp2_with (go_at_call 106; (with_reducible refine (RA.out _ (Since.refl _)).mono ?_); rintro e w1 ⟨rfl,k1⟩)
  go_ret2
  exact .no rfl k1
 | true =>
  have RA:=Lib.hid (right_at h hl hb hr)
  have HF:=Lib.hid (right_full hr)
  obtain⟨R,hR⟩:∃ R,R=nextF l x:=⟨_,rfl⟩
  have e:next l x=R:=by rw[next,if_pos hr,hR]
  rw[e]
  obtain⟨n,hn⟩:∃ n,n=l.length:=⟨_,rfl⟩
  rw[← hn] at h hl RA ⊢
  have H:=Lib.hid h
  have HN:=Lib.hid hn
  have HR:=Lib.hid hR
  simp only[fits] at hx
  clear h hn hb hR e hr
  go_enter Try.func104,Try.ntmps104
  go_wp2_with (go_at_call 106; (with_reducible refine (RA.out _ (Since.refl _)).mono ?_); rintro e w1 ⟨rfl,k1⟩)
  go_loopw [13] (fun i wr=>∃ k:Nat,i = .int .i64 (k:Int)∧k≤n∧Hid (nextF (l.drop k) x=R)∧Hid (Since w wr)) (fun i _=>n - (intOf i).toNat)
  case atStart=>exact⟨0,rfl,Nat.zero_le _,HR.out.symm,k1⟩
  case round =>
   obtain⟨k,rfl,hk,HE,HW⟩:=hrel
   by_cases hkn:k<n
   · have hkl:k<l.length:=by have:=HN.out; omega
     obtain⟨g,o,rfl,e0,e1⟩:=elR (H.out.since stR HW.out) hkl
     have hst:=HE.out
     rw[drop_at hkl,nextF] at hst
     have hbz:=HF.out l[k] (List.getElem_mem hkl)
     generalize l[k]=y at *
     obtain⟨lo,hi⟩:=y
     simp only[mx] at hst hbz e0 e1
     have ka:=Lib.hid (sA wr (.cells #[.int .i64 lo,.int .i64 hi] 36))
     have ST:=Lib.hid hst
     obtain⟨r0,r1⟩:=(Bx.fresh wr #[.int .i64 lo,.int .i64 hi] 36).two
     clear hst hkl HE
     by_cases c1:x≤hi
     · have HE:=Lib.hid ((if_pos c1).symm.trans ST.out)
       by_cases c4:x<lo
       · have HE2:=Lib.hid ((congrArg some (show lo=max x lo by omega)).trans HE.out)
         go_wp2
         go_ret2
         exact .yes HE2.out (HW.out.trans ka.out)
       · have HE2:=Lib.hid ((congrArg some (show x=max x lo by omega)).trans HE.out)
         go_wp2
         go_ret2
         exact .yes HE2.out (HW.out.trans ka.out)
     · have HE:=Lib.hid ((if_neg c1).symm.trans ST.out)
       go_wp2
       go_roundw
       case rel=>exact⟨k+1,by go_num,by omega,HE.out,HW.out.trans ka.out⟩
       case measure=>simp[intOf]; omega
   · obtain rfl:k=n:=by omega
     have HE2:=Lib.hid (show none=R by rw[← HE.out,List.drop_of_length_le (by have:=HN.out; omega)]; rfl)
     go_wp2
     go_ret2
     exact .no HE2.out HW.out
theorem next_at {v:Value} {l:List Rn} {w:World} (h:Sl 2 QR w v l) (hl:l.length≤1100000) (hb:Bd l) {x:Int} (hx:fits x) {R:Option Int} (hR:next l x=R) (W:World) (k:Since w W) :
 Calls Try.prog 104 #[v,.int .i64 x] W (RetN R W):=by subst hR; exact next_any v l x W (h.since stR k) hl hb hx
theorem has_any (v:Value) (l:List Rn) (x:Int) (w:World) (h:Sl 2 QR w v l) (hl:l.length≤1100000) (hb:Bd l) (hx:fits x) :
 Calls Try.prog 72 #[v,.int .i64 x] w (RetT (has l x) w):=by
 obtain⟨A,c,rfl⟩:=h.form
 have NA:=Lib.hid (fun R hR=>next_at h hl hb hx (R:=R) hR)
 have e:=has_next l x
 cases hn:next l x with
 | none =>
  have NB:=Lib.hid (NA.out _ hn)
  rw[hn] at e
  have e2:has l x=false:=by simpa using e
  rw[e2]
  clear h hb hn e e2 NA
  go_enter Try.func72,Try.ntmps72
  go_wp2_with (go_at_call 104; (with_reducible refine (NB.out _ (Since.refl _)).mono ?_); rintro e w1 ⟨rfl,k1⟩)
  go_ret
  exact⟨rfl,k1⟩
 | some y =>
  have NB:=Lib.hid (NA.out _ hn)
  rw[hn] at e
  by_cases c:y=x
  · have e2:has l x=true:=by simpa [c] using e
    rw[e2]
    subst c
    clear h hb hn e e2 NA
    go_enter Try.func72,Try.ntmps72
    go_wp2_with (go_at_call 104; (with_reducible refine (NB.out _ (Since.refl _)).mono ?_); rintro e w1 ⟨rfl,k1⟩)
    go_ret
    exact⟨rfl,k1⟩
  · have e2:has l x=false:=by simpa [c] using e
    have hz:(y == x)=false:=by rw[beq_eq_false_iff_ne]; exact c
    rw[e2]
    clear h hb hn e e2 NA
    go_enter Try.func72,Try.ntmps72
    go_wp2_with (go_at_call 104; (with_reducible refine (NB.out _ (Since.refl _)).mono ?_); rintro e w1 ⟨rfl,k1⟩)
    go_ret
    exact⟨rfl,k1⟩
end Go.Proofs.Ytakfabaocgbbmaa.Zs
