/- Layer 11 (sense): the document's own Dom. -/
import Derived.Test.YtilgmkhcpmegjaaKa
namespace Go.Proofs.Ytilgmkhcpmegjaa.Sn
open Go.RowKit
set_option linter.unusedVariables false
set_option linter.unusedSimpArgs false
open Dig Lx Tk Ti Zs Tr
theorem within_at8 {x:Int} {b:Bool} (h:within x=b) (W:World):Calls Try.prog 136 #[.int .i64 x] W fun e w'=>e = .returned (.bool b)∧Since W w'∧True:=by
 subst h
 exact (Zs.within_any x W).mono fun e w' h=>⟨h.1,h.2 ▸ Since.refl _,trivial⟩
set_option maxRecDepth 20000 in
set_option maxHeartbeats 4000000 in
theorem rdom_any (v:Value) (l:List Rn) (w:World) (h:Sl 2 QR w v l) (hl:l.length≤1100000) (hb:Bd l) :
 Calls Try.prog 140 #[v] w (RetT (domOk l) w):=by
 obtain⟨A,c,rfl⟩:=h.form
 by_cases hz:l.length=0
 · obtain rfl:l = []:=List.eq_nil_of_length_eq_zero hz
   clear hz hl h hb
   go_enter Try.func140,Try.ntmps140
   go_wp2
   go_loopw [3] (fun i wr=>i = .int .i64 0∧wr=w) (fun i _=>0)
   case atStart=>exact⟨rfl,rfl⟩
   case round =>
    obtain⟨rfl,rfl⟩:=hrel
    go_wp2
    go_ret
    exact⟨rfl,Since.refl _⟩
 obtain⟨n,hn⟩:∃ n,n=l.length:=⟨_,rfl⟩
 rw[← hn] at h hl ⊢
 have H:=Lib.hid h
 have HN:=Lib.hid hn
 have HB:=Lib.hid hb
 obtain⟨R,hR⟩:∃ R,R=right l:=⟨_,rfl⟩
 have er:domOk l=R:=by rw[domOk,decide_eq_true (by omega),Bool.and_true,hR]
 rw[er]
 have HR:=Lib.hid hR
 have hn0:0<n:=by omega
 clear h hn hb hR er hz
 go_enter Try.func140,Try.ntmps140
 go_wp2
 go_loopw [3] (fun i wr=>∃ (k:Nat) (b:Int),i = .int .i64 (k:Int)∧k≤n∧Hid (Pv l k b)∧Hid (okF b (l.drop k)=R)∧Hid (Since w wr)) (fun i _=>n - (intOf i).toNat)
 case atStart=>exact⟨0,-1048576,rfl,Nat.zero_le _,.inl ⟨rfl,rfl⟩,HR.out.symm,Since.refl _⟩
 case round =>
  obtain⟨k,b,rfl,hk,HP,HE,HW⟩:=hrel
  by_cases hkn:k<n
  · have hkl:k<l.length:=by have:=HN.out; omega
    have hek:l[k]?=some l[k]:=List.getElem?_eq_getElem hkl
    obtain⟨g,o,rfl,e0,e1⟩:=elR (H.out.since stR HW.out) hkl
    have hst:=HE.out
    rw[drop_at hkl] at hst
    have hbz:=HB.out l[k] (List.getElem_mem hkl)
    generalize l[k]=x at *
    obtain⟨lo,hi⟩:=x
    simp only[fits] at hst hbz e0 e1
    have hbb:=HP.out.ge
    have ST:=Lib.hid hst
    have HK:=Lib.hid hek
    have up:∀ {W:World},Since wr W→∀ {a:Addr} {u:Value},wr.cell? a=some u→W.cell? a=some u:=fun k _ _ g=>(k.cell _ (World.block_lt_of_cell? _ _ g)).trans g
    have HC:=Lib.hid (fun W (kk:Since wr W)=>(show W.cell? ⟨g,o+k*2,none⟩=some (.int .i64 lo)∧W.cell? ⟨g,o+k*2+1,none⟩=some (.int .i64 hi) from⟨up kk e0,up kk e1⟩))
    clear hst hkl HE e0 e1 up hek
    by_cases c1:lo>hi
    · have HE:=Lib.hid ((okF_no2 c1).symm.trans ST.out)
      go_wp2
      have hr0:Since wr wr.drew:=Since.drew (Since.refl wr)
      refine wp_region_noPanic ?_
      refine Reg.wp_region_G (S:=fun _=>True) (fun j => [].contains j) (by kernel_rfl) trivial ?_
      refine' Reg.tk3 (i := 0) (v := _) (some 10) [2, 3, 4, 10, 11, 12, 13, 14, 15, 16, 17, 18, 19, 20, 21, 22, 23, 24, 25, 26, 27, 28, 29, 30, 31, 32, 33, 34, 35, 36, 37, 38, 39, 40, 41, 42, 43, 44, 45, 46, 47] [] rfl (Or.inl ⟨by rfl, Or.inl ?hy2⟩) ?r_2
      case hy2=>(intro w' kk ss; obtain⟨x0,x1⟩:=HC.out _ (hr0.trans kk); go_simp; first | done | with_reducible rfl)
      try simp only[Act.put,Reg.l1,Reg.l2,Reg.l3]
      refine' Reg.tk3 (i := 1) (v := _) (some 11) [2, 3, 4, 10, 11, 12, 13, 14, 15, 16, 17, 18, 19, 20, 21, 22, 23, 24, 25, 26, 27, 28, 29, 30, 31, 32, 33, 34, 35, 36, 37, 38, 39, 40, 41, 42, 43, 44, 45, 46, 47] [] rfl (Or.inl ⟨by rfl, Or.inl ?hy3⟩) ?r_3
      case hy3=>(intro w' kk ss; obtain⟨x0,x1⟩:=HC.out _ (hr0.trans kk); go_simp; first | done | with_reducible rfl)
      try simp only[Act.put,Reg.l1,Reg.l2,Reg.l3]
      refine' Reg.tk3 (i := 2) (v := _) (some 12) [3, 4, 10, 11, 12, 13, 14, 15, 16, 17, 18, 19, 20, 21, 22, 23, 24, 25, 26, 27, 28, 29, 30, 31, 32, 33, 34, 35, 36, 37, 38, 39, 40, 41, 42, 43, 44, 45, 46, 47] [] rfl (Or.inl ⟨by rfl, Or.inl ?hy4⟩) ?r_4
      case hy4=>(intro w' kk ss; obtain⟨x0,x1⟩:=HC.out _ (hr0.trans kk); go_simp; first | done | with_reducible rfl)
      try simp only[Act.put,Reg.l1,Reg.l2,Reg.l3]
      refine' Reg.tk3 (i := 3) (v := _) (some 13) [4, 10, 11, 12, 13, 14, 15, 16, 17, 18, 19, 20, 21, 22, 23, 24, 25, 26, 27, 28, 29, 30, 31, 32, 33, 34, 35, 36, 37, 38, 39, 40, 41, 42, 43, 44, 45, 46, 47] [] rfl (Or.inl ⟨by rfl, Or.inl ?hy5⟩) ?r_5
      case hy5=>(intro w' kk ss; obtain⟨x0,x1⟩:=HC.out _ (hr0.trans kk); go_simp; first | done | with_reducible rfl)
      try simp only[Act.put,Reg.l1,Reg.l2,Reg.l3]
      refine' Reg.tk3 (i := 4) (v := _) (some 14) [10, 11, 12, 13, 14, 15, 16, 17, 18, 19, 20, 21, 22, 23, 24, 25, 26, 27, 28, 29, 30, 31, 32, 33, 34, 35, 36, 37, 38, 39, 40, 41, 42, 43, 44, 45, 46, 47] [] rfl (Or.inl ⟨by rfl, Or.inl ?hy6⟩) ?r_6
      case hy6=>(intro w' kk ss; obtain⟨x0,x1⟩:=HC.out _ (hr0.trans kk); go_simp; first | done | with_reducible rfl)
      try simp only[Act.put,Reg.l1,Reg.l2,Reg.l3]
      refine' Reg.tk3 (i := 5) (v := _) (some 15) [7, 8, 9, 10, 11, 12, 13, 14, 15, 16, 17, 18, 19, 20, 21, 22, 23, 24, 25, 26, 27, 28, 29, 30, 31, 32, 33, 34, 35, 36, 37, 38, 39, 40, 41, 42, 43, 44, 45, 46, 47] [] rfl (Or.inl ⟨by rfl, Or.inl ?hy7⟩) ?r_7
      case hy7=>(intro w' kk ss; obtain⟨x0,x1⟩:=HC.out _ (hr0.trans kk); go_simp; first | done | with_reducible rfl)
      try simp only[Act.put,Reg.l1,Reg.l2,Reg.l3]
      refine' Reg.tk3 (i := 6) (v := _) (some 16) [7, 8, 9, 10, 11, 12, 13, 14, 15, 16, 17, 18, 19, 20, 21, 22, 23, 24, 25, 26, 27, 28, 29, 30, 31, 32, 33, 34, 35, 36, 37, 38, 39, 40, 41, 42, 43, 44, 45, 46, 47] [] rfl (Or.inl ⟨by rfl, Or.inl ?hy8⟩) ?r_8
      case hy8=>(intro w' kk ss; obtain⟨x0,x1⟩:=HC.out _ (hr0.trans kk); go_simp; first | done | with_reducible rfl)
      try simp only[Act.put,Reg.l1,Reg.l2,Reg.l3]
      refine' Reg.tk3 (i := 7) (v := _) (some 17) [8, 9, 10, 11, 12, 13, 14, 15, 16, 17, 18, 19, 20, 21, 22, 23, 24, 25, 26, 27, 28, 29, 30, 31, 32, 33, 34, 35, 36, 37, 38, 39, 40, 41, 42, 43, 44, 45, 46, 47] [] rfl (Or.inl ⟨by rfl, Or.inl ?hy9⟩) ?r_9
      case hy9=>(intro w' kk ss; obtain⟨x0,x1⟩:=HC.out _ (hr0.trans kk); go_simp; first | done | with_reducible rfl)
      try simp only[Act.put,Reg.l1,Reg.l2,Reg.l3]
      refine' Reg.tk3 (i := 8) (v := _) (some 18) [9, 10, 11, 12, 13, 14, 15, 16, 17, 18, 19, 20, 21, 22, 23, 24, 25, 26, 27, 28, 29, 30, 31, 32, 33, 34, 35, 36, 37, 38, 39, 40, 41, 42, 43, 44, 45, 46, 47] [] rfl (Or.inl ⟨by rfl, Or.inl ?hy10⟩) ?r_10
      case hy10=>(intro w' kk ss; obtain⟨x0,x1⟩:=HC.out _ (hr0.trans kk); go_simp; first | done | with_reducible rfl)
      try simp only[Act.put,Reg.l1,Reg.l2,Reg.l3]
      refine' Reg.tk3 (i := 9) (v := _) (some 19) [10, 11, 12, 13, 14, 15, 16, 17, 18, 19, 20, 21, 22, 23, 24, 25, 26, 27, 28, 29, 30, 31, 32, 33, 34, 35, 36, 37, 38, 39, 40, 41, 42, 43, 44, 45, 46, 47] [] rfl (Or.inl ⟨by rfl, Or.inl ?hy11⟩) ?r_11
      case hy11=>(intro w' kk ss; obtain⟨x0,x1⟩:=HC.out _ (hr0.trans kk); go_simp; first | done | with_reducible rfl)
      try simp only[Act.put,Reg.l1,Reg.l2,Reg.l3]
      refine' Reg.tk3 (i := 10) (v := _) (some 20) [11, 12, 13, 14, 15, 16, 17, 18, 19, 20, 21, 22, 23, 24, 25, 26, 27, 28, 29, 30, 31, 32, 33, 34, 35, 36, 37, 38, 39, 40, 41, 42, 43, 44, 45, 46, 47] [] rfl (Or.inl ⟨by rfl, Or.inl ?hy12⟩) ?r_12
      case hy12=>(intro w' kk ss; obtain⟨x0,x1⟩:=HC.out _ (hr0.trans kk); go_simp; first | done | with_reducible rfl)
      try simp only[Act.put,Reg.l1,Reg.l2,Reg.l3]
      refine' Reg.tk3 (i := 11) (v := _) (some 21) [12, 13, 14, 15, 16, 17, 18, 19, 20, 21, 22, 23, 24, 25, 26, 27, 28, 29, 30, 31, 32, 33, 34, 35, 36, 37, 38, 39, 40, 41, 42, 43, 44, 45, 46, 47] [] rfl (Or.inl ⟨by rfl, Or.inl ?hy13⟩) ?r_13
      case hy13=>(intro w' kk ss; obtain⟨x0,x1⟩:=HC.out _ (hr0.trans kk); go_simp; first | done | with_reducible rfl)
      try simp only[Act.put,Reg.l1,Reg.l2,Reg.l3]
      refine Reg.tk3 (i := 12) (v := undef) (some 22) [14, 15, 16, 17, 18, 19, 20, 21, 22, 23, 24, 25, 26, 27, 28, 29, 30, 31, 32, 33, 34, 35, 36, 37, 38, 39, 40, 41, 42, 43, 44, 45, 46, 47] [] rfl (Or.inr ⟨by rfl, rfl⟩) ?_
      try simp only[Act.put,Reg.l1,Reg.l2,Reg.l3]
      refine Reg.tk3 (i := 13) (v := undef) (some 23) [14, 15, 16, 17, 18, 19, 20, 21, 22, 23, 24, 25, 26, 27, 28, 29, 30, 31, 32, 33, 34, 35, 36, 37, 38, 39, 40, 41, 42, 43, 44, 45, 46, 47] [] rfl (Or.inr ⟨by rfl, rfl⟩) ?_
      try simp only[Act.put,Reg.l1,Reg.l2,Reg.l3]
      refine Reg.tk3 (i := 14) (v := undef) (some 24) [15, 16, 17, 18, 19, 20, 21, 22, 23, 24, 25, 26, 27, 28, 29, 30, 31, 32, 33, 34, 35, 36, 37, 38, 39, 40, 41, 42, 43, 44, 45, 46, 47] [] rfl (Or.inr ⟨by rfl, rfl⟩) ?_
      try simp only[Act.put,Reg.l1,Reg.l2,Reg.l3]
      refine Reg.tk3 (i := 15) (v := undef) (some 25) [16, 17, 18, 19, 20, 21, 22, 23, 24, 25, 26, 27, 28, 29, 30, 31, 32, 33, 34, 35, 36, 37, 38, 39, 40, 41, 42, 43, 44, 45, 46, 47] [] rfl (Or.inr ⟨by rfl, rfl⟩) ?_
      try simp only[Act.put,Reg.l1,Reg.l2,Reg.l3]
      refine Reg.tk3 (i := 16) (v := undef) (some 26) [17, 18, 19, 20, 21, 22, 23, 24, 25, 26, 27, 28, 29, 30, 31, 32, 33, 34, 35, 36, 37, 38, 39, 40, 41, 42, 43, 44, 45, 46, 47] [] rfl (Or.inr ⟨by rfl, rfl⟩) ?_
      try simp only[Act.put,Reg.l1,Reg.l2,Reg.l3]
      refine Reg.tk3 (i := 17) (v := undef) (some 27) [18, 19, 20, 21, 22, 23, 24, 25, 26, 27, 28, 29, 30, 31, 32, 33, 34, 35, 36, 37, 38, 39, 40, 41, 42, 43, 44, 45, 46, 47] [] rfl (Or.inr ⟨by rfl, rfl⟩) ?_
      try simp only[Act.put,Reg.l1,Reg.l2,Reg.l3]
      refine Reg.tk3 (i := 18) (v := undef) (some 28) [19, 20, 21, 22, 23, 24, 25, 26, 27, 28, 29, 30, 31, 32, 33, 34, 35, 36, 37, 38, 39, 40, 41, 42, 43, 44, 45, 46, 47] [] rfl (Or.inr ⟨by rfl, rfl⟩) ?_
      try simp only[Act.put,Reg.l1,Reg.l2,Reg.l3]
      refine' Reg.tk3 (i := 19) (v := _) (some 29) [20, 21, 22, 23, 24, 25, 26, 27, 28, 29, 30, 31, 32, 33, 34, 35, 36, 37, 38, 39, 40, 41, 42, 43, 44, 45, 46, 47] [] rfl (Or.inl ⟨by rfl, Or.inl ?hy14⟩) ?r_14
      case hy14=>(intro w' kk ss; obtain⟨x0,x1⟩:=HC.out _ (hr0.trans kk); go_simp; first | done | with_reducible rfl)
      try simp only[Act.put,Reg.l1,Reg.l2,Reg.l3]
      refine' Reg.tk3 (i := 20) (v := _) (some 30) [21, 22, 23, 24, 25, 26, 27, 28, 29, 30, 31, 32, 33, 34, 35, 36, 37, 38, 39, 40, 41, 42, 43, 44, 45, 46, 47] [] rfl (Or.inl ⟨by rfl, Or.inl ?hy15⟩) ?r_15
      case hy15=>(intro w' kk ss; obtain⟨x0,x1⟩:=HC.out _ (hr0.trans kk); go_simp; first | done | with_reducible rfl)
      try simp only[Act.put,Reg.l1,Reg.l2,Reg.l3]
      refine Reg.tk3 (i := 21) (v := undef) (some 31) [23, 24, 25, 26, 27, 28, 29, 30, 31, 32, 33, 34, 35, 36, 37, 38, 39, 40, 41, 42, 43, 44, 45, 46, 47] [] rfl (Or.inr ⟨by rfl, rfl⟩) ?_
      try simp only[Act.put,Reg.l1,Reg.l2,Reg.l3]
      refine Reg.tk3 (i := 22) (v := undef) (some 32) [23, 24, 25, 26, 27, 28, 29, 30, 31, 32, 33, 34, 35, 36, 37, 38, 39, 40, 41, 42, 43, 44, 45, 46, 47] [] rfl (Or.inr ⟨by rfl, rfl⟩) ?_
      try simp only[Act.put,Reg.l1,Reg.l2,Reg.l3]
      refine Reg.tk3 (i := 23) (v := undef) (some 33) [24, 25, 26, 27, 28, 29, 30, 31, 32, 33, 34, 35, 36, 37, 38, 39, 40, 41, 42, 43, 44, 45, 46, 47] [] rfl (Or.inr ⟨by rfl, rfl⟩) ?_
      try simp only[Act.put,Reg.l1,Reg.l2,Reg.l3]
      refine Reg.tk3 (i := 24) (v := undef) (some 34) [25, 26, 27, 28, 29, 30, 31, 32, 33, 34, 35, 36, 37, 38, 39, 40, 41, 42, 43, 44, 45, 46, 47] [] rfl (Or.inr ⟨by rfl, rfl⟩) ?_
      try simp only[Act.put,Reg.l1,Reg.l2,Reg.l3]
      refine Reg.tk3 (i := 25) (v := undef) (some 35) [26, 27, 28, 29, 30, 31, 32, 33, 34, 35, 36, 37, 38, 39, 40, 41, 42, 43, 44, 45, 46, 47] [] rfl (Or.inr ⟨by rfl, rfl⟩) ?_
      try simp only[Act.put,Reg.l1,Reg.l2,Reg.l3]
      refine Reg.tk3 (i := 26) (v := undef) (some 36) [27, 28, 29, 30, 31, 32, 33, 34, 35, 36, 37, 38, 39, 40, 41, 42, 43, 44, 45, 46, 47] [] rfl (Or.inr ⟨by rfl, rfl⟩) ?_
      try simp only[Act.put,Reg.l1,Reg.l2,Reg.l3]
      refine Reg.tk3 (i := 27) (v := undef) (some 37) [28, 29, 30, 31, 32, 33, 34, 35, 36, 37, 38, 39, 40, 41, 42, 43, 44, 45, 46, 47] [] rfl (Or.inr ⟨by rfl, rfl⟩) ?_
      try simp only[Act.put,Reg.l1,Reg.l2,Reg.l3]
      refine' Reg.tk3 (i := 28) (v := _) (some 38) [29, 30, 31, 32, 33, 34, 35, 36, 37, 38, 39, 40, 41, 42, 43, 44, 45, 46, 47] [] rfl (Or.inl ⟨by rfl, Or.inl ?hy16⟩) ?r_16
      case hy16=>(intro w' kk ss; obtain⟨x0,x1⟩:=HC.out _ (hr0.trans kk); go_simp; first | done | with_reducible rfl)
      try simp only[Act.put,Reg.l1,Reg.l2,Reg.l3]
      refine' Reg.tk3 (i := 29) (v := _) (some 39) [30, 31, 32, 33, 34, 35, 36, 37, 38, 39, 40, 41, 42, 43, 44, 45, 46, 47] [] rfl (Or.inl ⟨by rfl, Or.inl ?hy17⟩) ?r_17
      case hy17=>(intro w' kk ss; obtain⟨x0,x1⟩:=HC.out _ (hr0.trans kk); go_simp; first | done | with_reducible rfl)
      try simp only[Act.put,Reg.l1,Reg.l2,Reg.l3]
      refine Reg.tk3 (i := 30) (v := undef) (some 40) [31, 32, 33, 34, 35, 36, 37, 38, 39, 40, 41, 42, 43, 44, 45, 46, 47] [] rfl (Or.inr ⟨by rfl, rfl⟩) ?_
      try simp only[Act.put,Reg.l1,Reg.l2,Reg.l3]
      refine Reg.tk3 (i := 31) (v := undef) (some 41) [32, 33, 34, 35, 36, 37, 38, 39, 40, 41, 42, 43, 44, 45, 46, 47] [] rfl (Or.inr ⟨by rfl, rfl⟩) ?_
      try simp only[Act.put,Reg.l1,Reg.l2,Reg.l3]
      refine Reg.tk3 (i := 32) (v := undef) (some 42) [33, 34, 35, 36, 37, 38, 39, 40, 41, 42, 43, 44, 45, 46, 47] [] rfl (Or.inr ⟨by rfl, rfl⟩) ?_
      try simp only[Act.put,Reg.l1,Reg.l2,Reg.l3]
      refine Reg.tk3 (i := 33) (v := undef) (some 43) [35, 36, 37, 45, 46, 47] [] rfl (Or.inr ⟨by rfl, rfl⟩) ?_
      try simp only[Act.put,Reg.l1,Reg.l2,Reg.l3]
      refine Reg.tk3 (i := 34) (v := undef) (some 44) [35, 36, 37, 45, 46, 47] [] rfl (Or.inr ⟨by rfl, rfl⟩) ?_
      try simp only[Act.put,Reg.l1,Reg.l2,Reg.l3]
      refine Reg.tk3 (i := 35) (v := undef) (some 45) [36, 37, 45, 46, 47] [] rfl (Or.inr ⟨by rfl, rfl⟩) ?_
      try simp only[Act.put,Reg.l1,Reg.l2,Reg.l3]
      refine Reg.tk3 (i := 36) (v := undef) (some 46) [37, 45, 46, 47] [] rfl (Or.inr ⟨by rfl, rfl⟩) ?_
      try simp only[Act.put,Reg.l1,Reg.l2,Reg.l3]
      refine Reg.tk3 (i := 37) (v := undef) (some 47) [45, 46, 47] [] rfl (Or.inr ⟨by rfl, rfl⟩) ?_
      try simp only[Act.put,Reg.l1,Reg.l2,Reg.l3]
      refine Reg.tk3 (i := 38) (v := undef) (some 48) [41, 42, 43, 44, 45, 46, 47] [] rfl (Or.inr ⟨by rfl, rfl⟩) ?_
      try simp only[Act.put,Reg.l1,Reg.l2,Reg.l3]
      refine Reg.tk3 (i := 39) (v := undef) (some 49) [40, 41, 42, 43, 44, 45, 46, 47] [] rfl (Or.inr ⟨by rfl, rfl⟩) ?_
      try simp only[Act.put,Reg.l1,Reg.l2,Reg.l3]
      refine Reg.tk3 (i := 40) (v := undef) (some 50) [41, 42, 43, 44, 45, 46, 47] [] rfl (Or.inr ⟨by rfl, rfl⟩) ?_
      try simp only[Act.put,Reg.l1,Reg.l2,Reg.l3]
      refine Reg.tk3 (i := 41) (v := undef) (some 51) [42, 43, 44, 45, 46, 47] [] rfl (Or.inr ⟨by rfl, rfl⟩) ?_
      try simp only[Act.put,Reg.l1,Reg.l2,Reg.l3]
      refine Reg.tk3 (i := 42) (v := undef) (some 52) [43, 44, 45, 46, 47] [] rfl (Or.inr ⟨by rfl, rfl⟩) ?_
      try simp only[Act.put,Reg.l1,Reg.l2,Reg.l3]
      refine Reg.tk3 (i := 43) (v := undef) (some 53) [44, 45, 46, 47] [] rfl (Or.inr ⟨by rfl, rfl⟩) ?_
      try simp only[Act.put,Reg.l1,Reg.l2,Reg.l3]
      refine Reg.tk3 (i := 44) (v := undef) (some 54) [45, 46, 47] [] rfl (Or.inr ⟨by rfl, rfl⟩) ?_
      try simp only[Act.put,Reg.l1,Reg.l2,Reg.l3]
      refine Reg.tk3 (i := 45) (v := undef) (some 55) [46, 47] [] rfl (Or.inr ⟨by rfl, rfl⟩) ?_
      try simp only[Act.put,Reg.l1,Reg.l2,Reg.l3]
      refine Reg.tk3 (i := 46) (v := undef) (some 56) [47] [] rfl (Or.inr ⟨by rfl, rfl⟩) ?_
      try simp only[Act.put,Reg.l1,Reg.l2,Reg.l3]
      refine' Reg.tk3 (i := 47) (v := _) (some 57) [] [] rfl (Or.inl ⟨by rfl, Or.inl ?hy18⟩) ?r_18
      case hy18=>(intro w' kk ss; obtain⟨x0,x1⟩:=HC.out _ (hr0.trans kk); go_simp; first | done | with_reducible rfl)
      try simp only[Act.put,Reg.l1,Reg.l2,Reg.l3]
      refine Reg.wpG_done (by kernel_rfl) (fun we ke se => ?_) _
      refine NoPanic.normal ?_
      have hr0:=hr0.trans ke
      clear ke
      go_wp2
      go_ret
      exact .of HE.out (HW.out.trans hr0)
    have z1:decide (hi<lo)=false:=by rw[decide_eq_false_iff_not]; exact c1
    by_cases c2:within lo=true
    rotate_left
    · have c2:within lo=false:=by simpa using c2
      have HL:=Lib.hid c2
      have HE:=Lib.hid ((okF_lo' c2 c1 hbb).symm.trans ST.out)
      clear c2
      go_wp2
      have hr0:Since wr wr.drew:=Since.drew (Since.refl wr)
      refine wp_region_noPanic ?_
      refine Reg.wp_region_G (S:=fun _=>True) (fun j => [].contains j) (by kernel_rfl) trivial ?_
      refine' Reg.tk3 (i := 0) (v := _) (some 10) [2, 3, 4, 10, 11, 12, 13, 14, 15, 16, 17, 18, 19, 20, 21, 22, 23, 24, 25, 26, 27, 28, 29, 30, 31, 32, 33, 34, 35, 36, 37, 38, 39, 40, 41, 42, 43, 44, 45, 46, 47] [] rfl (Or.inl ⟨by rfl, Or.inl ?hy20⟩) ?r_20
      case hy20=>(intro w' kk ss; obtain⟨x0,x1⟩:=HC.out _ (hr0.trans kk); go_simp; first | done | with_reducible rfl)
      try simp only[Act.put,Reg.l1,Reg.l2,Reg.l3]
      refine' Reg.tk3 (i := 1) (v := _) (some 11) [2, 3, 4, 10, 11, 12, 13, 14, 15, 16, 17, 18, 19, 20, 21, 22, 23, 24, 25, 26, 27, 28, 29, 30, 31, 32, 33, 34, 35, 36, 37, 38, 39, 40, 41, 42, 43, 44, 45, 46, 47] [] rfl (Or.inl ⟨by rfl, Or.inl ?hy21⟩) ?r_21
      case hy21=>(intro w' kk ss; obtain⟨x0,x1⟩:=HC.out _ (hr0.trans kk); go_simp; first | done | with_reducible rfl)
      try simp only[Act.put,Reg.l1,Reg.l2,Reg.l3]
      refine' Reg.tk3 (i := 2) (v := _) (some 12) [3, 4, 10, 11, 12, 13, 14, 15, 16, 17, 18, 19, 20, 21, 22, 23, 24, 25, 26, 27, 28, 29, 30, 31, 32, 33, 34, 35, 36, 37, 38, 39, 40, 41, 42, 43, 44, 45, 46, 47] [] rfl (Or.inl ⟨by rfl, Or.inl ?hy22⟩) ?r_22
      case hy22=>(intro w' kk ss; obtain⟨x0,x1⟩:=HC.out _ (hr0.trans kk); go_simp; first | done | with_reducible rfl)
      try simp only[Act.put,Reg.l1,Reg.l2,Reg.l3]
      refine' Reg.tk3 (i := 3) (v := _) (some 13) [4, 10, 11, 12, 13, 14, 15, 16, 17, 18, 19, 20, 21, 22, 23, 24, 25, 26, 27, 28, 29, 30, 31, 32, 33, 34, 35, 36, 37, 38, 39, 40, 41, 42, 43, 44, 45, 46, 47] [] rfl (Or.inl ⟨by rfl, Or.inl ?hy23⟩) ?r_23
      case hy23=>(intro w' kk ss; obtain⟨x0,x1⟩:=HC.out _ (hr0.trans kk); go_simp; first | done | with_reducible rfl)
      try simp only[Act.put,Reg.l1,Reg.l2,Reg.l3]
      refine' Reg.tk3 (i := 4) (v := _) (some 14) [10, 11, 12, 13, 14, 15, 16, 17, 18, 19, 20, 21, 22, 23, 24, 25, 26, 27, 28, 29, 30, 31, 32, 33, 34, 35, 36, 37, 38, 39, 40, 41, 42, 43, 44, 45, 46, 47] [] rfl (Or.inl ⟨by rfl, Or.inl ?hy24⟩) ?r_24
      case hy24=>(intro w' kk ss; obtain⟨x0,x1⟩:=HC.out _ (hr0.trans kk); go_simp; first | done | with_reducible rfl)
      try simp only[Act.put,Reg.l1,Reg.l2,Reg.l3]
      refine' Reg.tk3 (i := 5) (v := _) (some 15) [7, 8, 9, 10, 11, 12, 13, 14, 15, 16, 17, 18, 19, 20, 21, 22, 23, 24, 25, 26, 27, 28, 29, 30, 31, 32, 33, 34, 35, 36, 37, 38, 39, 40, 41, 42, 43, 44, 45, 46, 47] [] rfl (Or.inl ⟨by rfl, Or.inl ?hy25⟩) ?r_25
      case hy25=>(intro w' kk ss; obtain⟨x0,x1⟩:=HC.out _ (hr0.trans kk); go_simp; first | done | with_reducible rfl)
      try simp only[Act.put,Reg.l1,Reg.l2,Reg.l3]
      refine' Reg.tk3 (i := 6) (v := _) (some 16) [7, 8, 9, 10, 11, 12, 13, 14, 15, 16, 17, 18, 19, 20, 21, 22, 23, 24, 25, 26, 27, 28, 29, 30, 31, 32, 33, 34, 35, 36, 37, 38, 39, 40, 41, 42, 43, 44, 45, 46, 47] [] rfl (Or.inl ⟨by rfl, Or.inl ?hy26⟩) ?r_26
      case hy26=>(intro w' kk ss; obtain⟨x0,x1⟩:=HC.out _ (hr0.trans kk); go_simp; first | done | with_reducible rfl)
      try simp only[Act.put,Reg.l1,Reg.l2,Reg.l3]
      refine' Reg.tk3 (i := 7) (v := _) (some 17) [8, 9, 10, 11, 12, 13, 14, 15, 16, 17, 18, 19, 20, 21, 22, 23, 24, 25, 26, 27, 28, 29, 30, 31, 32, 33, 34, 35, 36, 37, 38, 39, 40, 41, 42, 43, 44, 45, 46, 47] [] rfl (Or.inl ⟨by rfl, Or.inl ?hy27⟩) ?r_27
      case hy27=>(intro w' kk ss; obtain⟨x0,x1⟩:=HC.out _ (hr0.trans kk); go_simp; first | done | with_reducible rfl)
      try simp only[Act.put,Reg.l1,Reg.l2,Reg.l3]
      refine' Reg.tk3 (i := 8) (v := _) (some 18) [9, 10, 11, 12, 13, 14, 15, 16, 17, 18, 19, 20, 21, 22, 23, 24, 25, 26, 27, 28, 29, 30, 31, 32, 33, 34, 35, 36, 37, 38, 39, 40, 41, 42, 43, 44, 45, 46, 47] [] rfl (Or.inl ⟨by rfl, Or.inl ?hy28⟩) ?r_28
      case hy28=>(intro w' kk ss; obtain⟨x0,x1⟩:=HC.out _ (hr0.trans kk); go_simp; first | done | with_reducible rfl)
      try simp only[Act.put,Reg.l1,Reg.l2,Reg.l3]
      refine' Reg.tk3 (i := 9) (v := _) (some 19) [10, 11, 12, 13, 14, 15, 16, 17, 18, 19, 20, 21, 22, 23, 24, 25, 26, 27, 28, 29, 30, 31, 32, 33, 34, 35, 36, 37, 38, 39, 40, 41, 42, 43, 44, 45, 46, 47] [] rfl (Or.inl ⟨by rfl, Or.inl ?hy29⟩) ?r_29
      case hy29=>(intro w' kk ss; obtain⟨x0,x1⟩:=HC.out _ (hr0.trans kk); go_simp; first | done | with_reducible rfl)
      try simp only[Act.put,Reg.l1,Reg.l2,Reg.l3]
      refine' Reg.tk3 (i := 10) (v := _) (some 20) [11, 12, 13, 14, 15, 16, 17, 18, 19, 20, 21, 22, 23, 24, 25, 26, 27, 28, 29, 30, 31, 32, 33, 34, 35, 36, 37, 38, 39, 40, 41, 42, 43, 44, 45, 46, 47] [] rfl (Or.inl ⟨by rfl, Or.inl ?hy30⟩) ?r_30
      case hy30=>(intro w' kk ss; obtain⟨x0,x1⟩:=HC.out _ (hr0.trans kk); go_simp; first | done | with_reducible rfl)
      try simp only[Act.put,Reg.l1,Reg.l2,Reg.l3]
      refine' Reg.tk3 (i := 11) (v := _) (some 21) [12, 13, 14, 15, 16, 17, 18, 19, 20, 21, 22, 23, 24, 25, 26, 27, 28, 29, 30, 31, 32, 33, 34, 35, 36, 37, 38, 39, 40, 41, 42, 43, 44, 45, 46, 47] [] rfl (Or.inl ⟨by rfl, Or.inl ?hy31⟩) ?r_31
      case hy31=>(intro w' kk ss; obtain⟨x0,x1⟩:=HC.out _ (hr0.trans kk); go_simp; first | done | with_reducible rfl)
      try simp only[Act.put,Reg.l1,Reg.l2,Reg.l3]
      refine' Reg.tk3 (i := 12) (v := _) (some 22) [14, 15, 16, 17, 18, 19, 20, 21, 22, 23, 24, 25, 26, 27, 28, 29, 30, 31, 32, 33, 34, 35, 36, 37, 38, 39, 40, 41, 42, 43, 44, 45, 46, 47] [] rfl (Or.inl ⟨by rfl, Or.inl ?hy32⟩) ?r_32
      case hy32=>(intro w' kk ss; obtain⟨x0,x1⟩:=HC.out _ (hr0.trans kk); go_simp; first | done | with_reducible rfl)
      try simp only[Act.put,Reg.l1,Reg.l2,Reg.l3]
      refine' Reg.tk3 (i := 13) (v := _) (some 23) [14, 15, 16, 17, 18, 19, 20, 21, 22, 23, 24, 25, 26, 27, 28, 29, 30, 31, 32, 33, 34, 35, 36, 37, 38, 39, 40, 41, 42, 43, 44, 45, 46, 47] [] rfl (Or.inl ⟨by rfl, Or.inl ?hy33⟩) ?r_33
      case hy33=>(intro w' kk ss; obtain⟨x0,x1⟩:=HC.out _ (hr0.trans kk); go_simp; first | done | with_reducible rfl)
      try simp only[Act.put,Reg.l1,Reg.l2,Reg.l3]
      refine' Reg.tk3 (i := 14) (v := _) (some 24) [15, 16, 17, 18, 19, 20, 21, 22, 23, 24, 25, 26, 27, 28, 29, 30, 31, 32, 33, 34, 35, 36, 37, 38, 39, 40, 41, 42, 43, 44, 45, 46, 47] [] rfl (Or.inl ⟨by rfl, Or.inl ?hy34⟩) ?r_34
      case hy34=>(intro w' kk ss; obtain⟨x0,x1⟩:=HC.out _ (hr0.trans kk); go_simp; first | done | with_reducible rfl)
      try simp only[Act.put,Reg.l1,Reg.l2,Reg.l3]
      refine' Reg.tk3 (i := 15) (v := _) (some 25) [16, 17, 18, 19, 20, 21, 22, 23, 24, 25, 26, 27, 28, 29, 30, 31, 32, 33, 34, 35, 36, 37, 38, 39, 40, 41, 42, 43, 44, 45, 46, 47] [] rfl (Or.inl ⟨by rfl, Or.inl ?hy35⟩) ?r_35
      case hy35=>(intro w' kk ss; obtain⟨x0,x1⟩:=HC.out _ (hr0.trans kk); go_simp; first | done | with_reducible rfl)
      try simp only[Act.put,Reg.l1,Reg.l2,Reg.l3]
      refine' Reg.tk3 (i := 16) (v := _) (some 26) [17, 18, 19, 20, 21, 22, 23, 24, 25, 26, 27, 28, 29, 30, 31, 32, 33, 34, 35, 36, 37, 38, 39, 40, 41, 42, 43, 44, 45, 46, 47] [] rfl (Or.inl ⟨by rfl, Or.inl ?hy36⟩) ?r_36
      case hy36=>(intro w' kk ss; obtain⟨x0,x1⟩:=HC.out _ (hr0.trans kk); go_simp; first | done | with_reducible rfl)
      try simp only[Act.put,Reg.l1,Reg.l2,Reg.l3]
      refine Reg.tk3 (i := 17) (v := .bool false) (some 27) [18, 19, 20, 21, 22, 23, 24, 25, 26, 27, 28, 29, 30, 31, 32, 33, 34, 35, 36, 37, 38, 39, 40, 41, 42, 43, 44, 45, 46, 47] [] rfl (Or.inl ⟨by rfl, Or.inr ⟨136, #[.int .i64 lo], fun w' kk ss => ⟨?_, ?_⟩⟩⟩) ?_
      · (try dsimp only at ss); go_simp
      · exact within_at8 HL.out w'
      try simp only[Act.put,Reg.l1,Reg.l2,Reg.l3]
      refine' Reg.tk3 (i := 18) (v := _) (some 28) [19, 20, 21, 22, 23, 24, 25, 26, 27, 28, 29, 30, 31, 32, 33, 34, 35, 36, 37, 38, 39, 40, 41, 42, 43, 44, 45, 46, 47] [] rfl (Or.inl ⟨by rfl, Or.inl ?hy37⟩) ?r_37
      case hy37=>(intro w' kk ss; obtain⟨x0,x1⟩:=HC.out _ (hr0.trans kk); go_simp; first | done | with_reducible rfl)
      try simp only[Act.put,Reg.l1,Reg.l2,Reg.l3]
      refine' Reg.tk3 (i := 19) (v := _) (some 29) [20, 21, 22, 23, 24, 25, 26, 27, 28, 29, 30, 31, 32, 33, 34, 35, 36, 37, 38, 39, 40, 41, 42, 43, 44, 45, 46, 47] [] rfl (Or.inl ⟨by rfl, Or.inl ?hy38⟩) ?r_38
      case hy38=>(intro w' kk ss; obtain⟨x0,x1⟩:=HC.out _ (hr0.trans kk); go_simp; first | done | with_reducible rfl)
      try simp only[Act.put,Reg.l1,Reg.l2,Reg.l3]
      refine' Reg.tk3 (i := 20) (v := _) (some 30) [21, 22, 23, 24, 25, 26, 27, 28, 29, 30, 31, 32, 33, 34, 35, 36, 37, 38, 39, 40, 41, 42, 43, 44, 45, 46, 47] [] rfl (Or.inl ⟨by rfl, Or.inl ?hy39⟩) ?r_39
      case hy39=>(intro w' kk ss; obtain⟨x0,x1⟩:=HC.out _ (hr0.trans kk); go_simp; first | done | with_reducible rfl)
      try simp only[Act.put,Reg.l1,Reg.l2,Reg.l3]
      refine Reg.tk3 (i := 21) (v := undef) (some 31) [23, 24, 25, 26, 27, 28, 29, 30, 31, 32, 33, 34, 35, 36, 37, 38, 39, 40, 41, 42, 43, 44, 45, 46, 47] [] rfl (Or.inr ⟨by rfl, rfl⟩) ?_
      try simp only[Act.put,Reg.l1,Reg.l2,Reg.l3]
      refine Reg.tk3 (i := 22) (v := undef) (some 32) [23, 24, 25, 26, 27, 28, 29, 30, 31, 32, 33, 34, 35, 36, 37, 38, 39, 40, 41, 42, 43, 44, 45, 46, 47] [] rfl (Or.inr ⟨by rfl, rfl⟩) ?_
      try simp only[Act.put,Reg.l1,Reg.l2,Reg.l3]
      refine Reg.tk3 (i := 23) (v := undef) (some 33) [24, 25, 26, 27, 28, 29, 30, 31, 32, 33, 34, 35, 36, 37, 38, 39, 40, 41, 42, 43, 44, 45, 46, 47] [] rfl (Or.inr ⟨by rfl, rfl⟩) ?_
      try simp only[Act.put,Reg.l1,Reg.l2,Reg.l3]
      refine Reg.tk3 (i := 24) (v := undef) (some 34) [25, 26, 27, 28, 29, 30, 31, 32, 33, 34, 35, 36, 37, 38, 39, 40, 41, 42, 43, 44, 45, 46, 47] [] rfl (Or.inr ⟨by rfl, rfl⟩) ?_
      try simp only[Act.put,Reg.l1,Reg.l2,Reg.l3]
      refine Reg.tk3 (i := 25) (v := undef) (some 35) [26, 27, 28, 29, 30, 31, 32, 33, 34, 35, 36, 37, 38, 39, 40, 41, 42, 43, 44, 45, 46, 47] [] rfl (Or.inr ⟨by rfl, rfl⟩) ?_
      try simp only[Act.put,Reg.l1,Reg.l2,Reg.l3]
      refine Reg.tk3 (i := 26) (v := undef) (some 36) [27, 28, 29, 30, 31, 32, 33, 34, 35, 36, 37, 38, 39, 40, 41, 42, 43, 44, 45, 46, 47] [] rfl (Or.inr ⟨by rfl, rfl⟩) ?_
      try simp only[Act.put,Reg.l1,Reg.l2,Reg.l3]
      refine Reg.tk3 (i := 27) (v := undef) (some 37) [28, 29, 30, 31, 32, 33, 34, 35, 36, 37, 38, 39, 40, 41, 42, 43, 44, 45, 46, 47] [] rfl (Or.inr ⟨by rfl, rfl⟩) ?_
      try simp only[Act.put,Reg.l1,Reg.l2,Reg.l3]
      refine' Reg.tk3 (i := 28) (v := _) (some 38) [29, 30, 31, 32, 33, 34, 35, 36, 37, 38, 39, 40, 41, 42, 43, 44, 45, 46, 47] [] rfl (Or.inl ⟨by rfl, Or.inl ?hy40⟩) ?r_40
      case hy40=>(intro w' kk ss; obtain⟨x0,x1⟩:=HC.out _ (hr0.trans kk); go_simp; first | done | with_reducible rfl)
      try simp only[Act.put,Reg.l1,Reg.l2,Reg.l3]
      refine' Reg.tk3 (i := 29) (v := _) (some 39) [30, 31, 32, 33, 34, 35, 36, 37, 38, 39, 40, 41, 42, 43, 44, 45, 46, 47] [] rfl (Or.inl ⟨by rfl, Or.inl ?hy41⟩) ?r_41
      case hy41=>(intro w' kk ss; obtain⟨x0,x1⟩:=HC.out _ (hr0.trans kk); go_simp; first | done | with_reducible rfl)
      try simp only[Act.put,Reg.l1,Reg.l2,Reg.l3]
      refine Reg.tk3 (i := 30) (v := undef) (some 40) [31, 32, 33, 34, 35, 36, 37, 38, 39, 40, 41, 42, 43, 44, 45, 46, 47] [] rfl (Or.inr ⟨by rfl, rfl⟩) ?_
      try simp only[Act.put,Reg.l1,Reg.l2,Reg.l3]
      refine Reg.tk3 (i := 31) (v := undef) (some 41) [32, 33, 34, 35, 36, 37, 38, 39, 40, 41, 42, 43, 44, 45, 46, 47] [] rfl (Or.inr ⟨by rfl, rfl⟩) ?_
      try simp only[Act.put,Reg.l1,Reg.l2,Reg.l3]
      refine Reg.tk3 (i := 32) (v := undef) (some 42) [33, 34, 35, 36, 37, 38, 39, 40, 41, 42, 43, 44, 45, 46, 47] [] rfl (Or.inr ⟨by rfl, rfl⟩) ?_
      try simp only[Act.put,Reg.l1,Reg.l2,Reg.l3]
      refine Reg.tk3 (i := 33) (v := undef) (some 43) [35, 36, 37, 45, 46, 47] [] rfl (Or.inr ⟨by rfl, rfl⟩) ?_
      try simp only[Act.put,Reg.l1,Reg.l2,Reg.l3]
      refine Reg.tk3 (i := 34) (v := undef) (some 44) [35, 36, 37, 45, 46, 47] [] rfl (Or.inr ⟨by rfl, rfl⟩) ?_
      try simp only[Act.put,Reg.l1,Reg.l2,Reg.l3]
      refine Reg.tk3 (i := 35) (v := undef) (some 45) [36, 37, 45, 46, 47] [] rfl (Or.inr ⟨by rfl, rfl⟩) ?_
      try simp only[Act.put,Reg.l1,Reg.l2,Reg.l3]
      refine Reg.tk3 (i := 36) (v := undef) (some 46) [37, 45, 46, 47] [] rfl (Or.inr ⟨by rfl, rfl⟩) ?_
      try simp only[Act.put,Reg.l1,Reg.l2,Reg.l3]
      refine Reg.tk3 (i := 37) (v := undef) (some 47) [45, 46, 47] [] rfl (Or.inr ⟨by rfl, rfl⟩) ?_
      try simp only[Act.put,Reg.l1,Reg.l2,Reg.l3]
      refine Reg.tk3 (i := 38) (v := undef) (some 48) [41, 42, 43, 44, 45, 46, 47] [] rfl (Or.inr ⟨by rfl, rfl⟩) ?_
      try simp only[Act.put,Reg.l1,Reg.l2,Reg.l3]
      refine Reg.tk3 (i := 39) (v := undef) (some 49) [40, 41, 42, 43, 44, 45, 46, 47] [] rfl (Or.inr ⟨by rfl, rfl⟩) ?_
      try simp only[Act.put,Reg.l1,Reg.l2,Reg.l3]
      refine Reg.tk3 (i := 40) (v := undef) (some 50) [41, 42, 43, 44, 45, 46, 47] [] rfl (Or.inr ⟨by rfl, rfl⟩) ?_
      try simp only[Act.put,Reg.l1,Reg.l2,Reg.l3]
      refine Reg.tk3 (i := 41) (v := undef) (some 51) [42, 43, 44, 45, 46, 47] [] rfl (Or.inr ⟨by rfl, rfl⟩) ?_
      try simp only[Act.put,Reg.l1,Reg.l2,Reg.l3]
      refine Reg.tk3 (i := 42) (v := undef) (some 52) [43, 44, 45, 46, 47] [] rfl (Or.inr ⟨by rfl, rfl⟩) ?_
      try simp only[Act.put,Reg.l1,Reg.l2,Reg.l3]
      refine Reg.tk3 (i := 43) (v := undef) (some 53) [44, 45, 46, 47] [] rfl (Or.inr ⟨by rfl, rfl⟩) ?_
      try simp only[Act.put,Reg.l1,Reg.l2,Reg.l3]
      refine Reg.tk3 (i := 44) (v := undef) (some 54) [45, 46, 47] [] rfl (Or.inr ⟨by rfl, rfl⟩) ?_
      try simp only[Act.put,Reg.l1,Reg.l2,Reg.l3]
      refine Reg.tk3 (i := 45) (v := undef) (some 55) [46, 47] [] rfl (Or.inr ⟨by rfl, rfl⟩) ?_
      try simp only[Act.put,Reg.l1,Reg.l2,Reg.l3]
      refine Reg.tk3 (i := 46) (v := undef) (some 56) [47] [] rfl (Or.inr ⟨by rfl, rfl⟩) ?_
      try simp only[Act.put,Reg.l1,Reg.l2,Reg.l3]
      refine' Reg.tk3 (i := 47) (v := _) (some 57) [] [] rfl (Or.inl ⟨by rfl, Or.inl ?hy42⟩) ?r_42
      case hy42=>(intro w' kk ss; obtain⟨x0,x1⟩:=HC.out _ (hr0.trans kk); go_simp; first | done | with_reducible rfl)
      try simp only[Act.put,Reg.l1,Reg.l2,Reg.l3]
      refine Reg.wpG_done (by kernel_rfl) (fun we ke se => ?_) _
      refine NoPanic.normal ?_
      have hr0:=hr0.trans ke
      clear ke
      go_wp2
      go_ret
      exact .of HE.out (HW.out.trans hr0)
    have HL:=Lib.hid c2
    have cl:=(within_iff' lo).1 c2
    clear c2
    by_cases c3:within hi=true
    rotate_left
    · have c3:within hi=false:=by simpa using c3
      have HH:=Lib.hid c3
      have HE:=Lib.hid ((okF_hi' c3 cl.1 c1).symm.trans ST.out)
      clear c3
      go_wp2
      have hr0:Since wr wr.drew:=Since.drew (Since.refl wr)
      refine wp_region_noPanic ?_
      refine Reg.wp_region_G (S:=fun _=>True) (fun j => [].contains j) (by kernel_rfl) trivial ?_
      refine' Reg.tk3 (i := 0) (v := _) (some 10) [2, 3, 4, 10, 11, 12, 13, 14, 15, 16, 17, 18, 19, 20, 21, 22, 23, 24, 25, 26, 27, 28, 29, 30, 31, 32, 33, 34, 35, 36, 37, 38, 39, 40, 41, 42, 43, 44, 45, 46, 47] [] rfl (Or.inl ⟨by rfl, Or.inl ?hy44⟩) ?r_44
      case hy44=>(intro w' kk ss; obtain⟨x0,x1⟩:=HC.out _ (hr0.trans kk); go_simp; first | done | with_reducible rfl)
      try simp only[Act.put,Reg.l1,Reg.l2,Reg.l3]
      refine' Reg.tk3 (i := 1) (v := _) (some 11) [2, 3, 4, 10, 11, 12, 13, 14, 15, 16, 17, 18, 19, 20, 21, 22, 23, 24, 25, 26, 27, 28, 29, 30, 31, 32, 33, 34, 35, 36, 37, 38, 39, 40, 41, 42, 43, 44, 45, 46, 47] [] rfl (Or.inl ⟨by rfl, Or.inl ?hy45⟩) ?r_45
      case hy45=>(intro w' kk ss; obtain⟨x0,x1⟩:=HC.out _ (hr0.trans kk); go_simp; first | done | with_reducible rfl)
      try simp only[Act.put,Reg.l1,Reg.l2,Reg.l3]
      refine' Reg.tk3 (i := 2) (v := _) (some 12) [3, 4, 10, 11, 12, 13, 14, 15, 16, 17, 18, 19, 20, 21, 22, 23, 24, 25, 26, 27, 28, 29, 30, 31, 32, 33, 34, 35, 36, 37, 38, 39, 40, 41, 42, 43, 44, 45, 46, 47] [] rfl (Or.inl ⟨by rfl, Or.inl ?hy46⟩) ?r_46
      case hy46=>(intro w' kk ss; obtain⟨x0,x1⟩:=HC.out _ (hr0.trans kk); go_simp; first | done | with_reducible rfl)
      try simp only[Act.put,Reg.l1,Reg.l2,Reg.l3]
      refine' Reg.tk3 (i := 3) (v := _) (some 13) [4, 10, 11, 12, 13, 14, 15, 16, 17, 18, 19, 20, 21, 22, 23, 24, 25, 26, 27, 28, 29, 30, 31, 32, 33, 34, 35, 36, 37, 38, 39, 40, 41, 42, 43, 44, 45, 46, 47] [] rfl (Or.inl ⟨by rfl, Or.inl ?hy47⟩) ?r_47
      case hy47=>(intro w' kk ss; obtain⟨x0,x1⟩:=HC.out _ (hr0.trans kk); go_simp; first | done | with_reducible rfl)
      try simp only[Act.put,Reg.l1,Reg.l2,Reg.l3]
      refine' Reg.tk3 (i := 4) (v := _) (some 14) [10, 11, 12, 13, 14, 15, 16, 17, 18, 19, 20, 21, 22, 23, 24, 25, 26, 27, 28, 29, 30, 31, 32, 33, 34, 35, 36, 37, 38, 39, 40, 41, 42, 43, 44, 45, 46, 47] [] rfl (Or.inl ⟨by rfl, Or.inl ?hy48⟩) ?r_48
      case hy48=>(intro w' kk ss; obtain⟨x0,x1⟩:=HC.out _ (hr0.trans kk); go_simp; first | done | with_reducible rfl)
      try simp only[Act.put,Reg.l1,Reg.l2,Reg.l3]
      refine' Reg.tk3 (i := 5) (v := _) (some 15) [7, 8, 9, 10, 11, 12, 13, 14, 15, 16, 17, 18, 19, 20, 21, 22, 23, 24, 25, 26, 27, 28, 29, 30, 31, 32, 33, 34, 35, 36, 37, 38, 39, 40, 41, 42, 43, 44, 45, 46, 47] [] rfl (Or.inl ⟨by rfl, Or.inl ?hy49⟩) ?r_49
      case hy49=>(intro w' kk ss; obtain⟨x0,x1⟩:=HC.out _ (hr0.trans kk); go_simp; first | done | with_reducible rfl)
      try simp only[Act.put,Reg.l1,Reg.l2,Reg.l3]
      refine' Reg.tk3 (i := 6) (v := _) (some 16) [7, 8, 9, 10, 11, 12, 13, 14, 15, 16, 17, 18, 19, 20, 21, 22, 23, 24, 25, 26, 27, 28, 29, 30, 31, 32, 33, 34, 35, 36, 37, 38, 39, 40, 41, 42, 43, 44, 45, 46, 47] [] rfl (Or.inl ⟨by rfl, Or.inl ?hy50⟩) ?r_50
      case hy50=>(intro w' kk ss; obtain⟨x0,x1⟩:=HC.out _ (hr0.trans kk); go_simp; first | done | with_reducible rfl)
      try simp only[Act.put,Reg.l1,Reg.l2,Reg.l3]
      refine' Reg.tk3 (i := 7) (v := _) (some 17) [8, 9, 10, 11, 12, 13, 14, 15, 16, 17, 18, 19, 20, 21, 22, 23, 24, 25, 26, 27, 28, 29, 30, 31, 32, 33, 34, 35, 36, 37, 38, 39, 40, 41, 42, 43, 44, 45, 46, 47] [] rfl (Or.inl ⟨by rfl, Or.inl ?hy51⟩) ?r_51
      case hy51=>(intro w' kk ss; obtain⟨x0,x1⟩:=HC.out _ (hr0.trans kk); go_simp; first | done | with_reducible rfl)
      try simp only[Act.put,Reg.l1,Reg.l2,Reg.l3]
      refine' Reg.tk3 (i := 8) (v := _) (some 18) [9, 10, 11, 12, 13, 14, 15, 16, 17, 18, 19, 20, 21, 22, 23, 24, 25, 26, 27, 28, 29, 30, 31, 32, 33, 34, 35, 36, 37, 38, 39, 40, 41, 42, 43, 44, 45, 46, 47] [] rfl (Or.inl ⟨by rfl, Or.inl ?hy52⟩) ?r_52
      case hy52=>(intro w' kk ss; obtain⟨x0,x1⟩:=HC.out _ (hr0.trans kk); go_simp; first | done | with_reducible rfl)
      try simp only[Act.put,Reg.l1,Reg.l2,Reg.l3]
      refine' Reg.tk3 (i := 9) (v := _) (some 19) [10, 11, 12, 13, 14, 15, 16, 17, 18, 19, 20, 21, 22, 23, 24, 25, 26, 27, 28, 29, 30, 31, 32, 33, 34, 35, 36, 37, 38, 39, 40, 41, 42, 43, 44, 45, 46, 47] [] rfl (Or.inl ⟨by rfl, Or.inl ?hy53⟩) ?r_53
      case hy53=>(intro w' kk ss; obtain⟨x0,x1⟩:=HC.out _ (hr0.trans kk); go_simp; first | done | with_reducible rfl)
      try simp only[Act.put,Reg.l1,Reg.l2,Reg.l3]
      refine' Reg.tk3 (i := 10) (v := _) (some 20) [11, 12, 13, 14, 15, 16, 17, 18, 19, 20, 21, 22, 23, 24, 25, 26, 27, 28, 29, 30, 31, 32, 33, 34, 35, 36, 37, 38, 39, 40, 41, 42, 43, 44, 45, 46, 47] [] rfl (Or.inl ⟨by rfl, Or.inl ?hy54⟩) ?r_54
      case hy54=>(intro w' kk ss; obtain⟨x0,x1⟩:=HC.out _ (hr0.trans kk); go_simp; first | done | with_reducible rfl)
      try simp only[Act.put,Reg.l1,Reg.l2,Reg.l3]
      refine' Reg.tk3 (i := 11) (v := _) (some 21) [12, 13, 14, 15, 16, 17, 18, 19, 20, 21, 22, 23, 24, 25, 26, 27, 28, 29, 30, 31, 32, 33, 34, 35, 36, 37, 38, 39, 40, 41, 42, 43, 44, 45, 46, 47] [] rfl (Or.inl ⟨by rfl, Or.inl ?hy55⟩) ?r_55
      case hy55=>(intro w' kk ss; obtain⟨x0,x1⟩:=HC.out _ (hr0.trans kk); go_simp; first | done | with_reducible rfl)
      try simp only[Act.put,Reg.l1,Reg.l2,Reg.l3]
      refine' Reg.tk3 (i := 12) (v := _) (some 22) [14, 15, 16, 17, 18, 19, 20, 21, 22, 23, 24, 25, 26, 27, 28, 29, 30, 31, 32, 33, 34, 35, 36, 37, 38, 39, 40, 41, 42, 43, 44, 45, 46, 47] [] rfl (Or.inl ⟨by rfl, Or.inl ?hy56⟩) ?r_56
      case hy56=>(intro w' kk ss; obtain⟨x0,x1⟩:=HC.out _ (hr0.trans kk); go_simp; first | done | with_reducible rfl)
      try simp only[Act.put,Reg.l1,Reg.l2,Reg.l3]
      refine' Reg.tk3 (i := 13) (v := _) (some 23) [14, 15, 16, 17, 18, 19, 20, 21, 22, 23, 24, 25, 26, 27, 28, 29, 30, 31, 32, 33, 34, 35, 36, 37, 38, 39, 40, 41, 42, 43, 44, 45, 46, 47] [] rfl (Or.inl ⟨by rfl, Or.inl ?hy57⟩) ?r_57
      case hy57=>(intro w' kk ss; obtain⟨x0,x1⟩:=HC.out _ (hr0.trans kk); go_simp; first | done | with_reducible rfl)
      try simp only[Act.put,Reg.l1,Reg.l2,Reg.l3]
      refine' Reg.tk3 (i := 14) (v := _) (some 24) [15, 16, 17, 18, 19, 20, 21, 22, 23, 24, 25, 26, 27, 28, 29, 30, 31, 32, 33, 34, 35, 36, 37, 38, 39, 40, 41, 42, 43, 44, 45, 46, 47] [] rfl (Or.inl ⟨by rfl, Or.inl ?hy58⟩) ?r_58
      case hy58=>(intro w' kk ss; obtain⟨x0,x1⟩:=HC.out _ (hr0.trans kk); go_simp; first | done | with_reducible rfl)
      try simp only[Act.put,Reg.l1,Reg.l2,Reg.l3]
      refine' Reg.tk3 (i := 15) (v := _) (some 25) [16, 17, 18, 19, 20, 21, 22, 23, 24, 25, 26, 27, 28, 29, 30, 31, 32, 33, 34, 35, 36, 37, 38, 39, 40, 41, 42, 43, 44, 45, 46, 47] [] rfl (Or.inl ⟨by rfl, Or.inl ?hy59⟩) ?r_59
      case hy59=>(intro w' kk ss; obtain⟨x0,x1⟩:=HC.out _ (hr0.trans kk); go_simp; first | done | with_reducible rfl)
      try simp only[Act.put,Reg.l1,Reg.l2,Reg.l3]
      refine' Reg.tk3 (i := 16) (v := _) (some 26) [17, 18, 19, 20, 21, 22, 23, 24, 25, 26, 27, 28, 29, 30, 31, 32, 33, 34, 35, 36, 37, 38, 39, 40, 41, 42, 43, 44, 45, 46, 47] [] rfl (Or.inl ⟨by rfl, Or.inl ?hy60⟩) ?r_60
      case hy60=>(intro w' kk ss; obtain⟨x0,x1⟩:=HC.out _ (hr0.trans kk); go_simp; first | done | with_reducible rfl)
      try simp only[Act.put,Reg.l1,Reg.l2,Reg.l3]
      refine Reg.tk3 (i := 17) (v := .bool true) (some 27) [18, 19, 20, 21, 22, 23, 24, 25, 26, 27, 28, 29, 30, 31, 32, 33, 34, 35, 36, 37, 38, 39, 40, 41, 42, 43, 44, 45, 46, 47] [] rfl (Or.inl ⟨by rfl, Or.inr ⟨136, #[.int .i64 lo], fun w' kk ss => ⟨?_, ?_⟩⟩⟩) ?_
      · (try dsimp only at ss); go_simp
      · exact within_at8 HL.out w'
      try simp only[Act.put,Reg.l1,Reg.l2,Reg.l3]
      refine' Reg.tk3 (i := 18) (v := _) (some 28) [19, 20, 21, 22, 23, 24, 25, 26, 27, 28, 29, 30, 31, 32, 33, 34, 35, 36, 37, 38, 39, 40, 41, 42, 43, 44, 45, 46, 47] [] rfl (Or.inl ⟨by rfl, Or.inl ?hy61⟩) ?r_61
      case hy61=>(intro w' kk ss; obtain⟨x0,x1⟩:=HC.out _ (hr0.trans kk); go_simp; first | done | with_reducible rfl)
      try simp only[Act.put,Reg.l1,Reg.l2,Reg.l3]
      refine' Reg.tk3 (i := 19) (v := _) (some 29) [20, 21, 22, 23, 24, 25, 26, 27, 28, 29, 30, 31, 32, 33, 34, 35, 36, 37, 38, 39, 40, 41, 42, 43, 44, 45, 46, 47] [] rfl (Or.inl ⟨by rfl, Or.inl ?hy62⟩) ?r_62
      case hy62=>(intro w' kk ss; obtain⟨x0,x1⟩:=HC.out _ (hr0.trans kk); go_simp; first | done | with_reducible rfl)
      try simp only[Act.put,Reg.l1,Reg.l2,Reg.l3]
      refine' Reg.tk3 (i := 20) (v := _) (some 30) [21, 22, 23, 24, 25, 26, 27, 28, 29, 30, 31, 32, 33, 34, 35, 36, 37, 38, 39, 40, 41, 42, 43, 44, 45, 46, 47] [] rfl (Or.inl ⟨by rfl, Or.inl ?hy63⟩) ?r_63
      case hy63=>(intro w' kk ss; obtain⟨x0,x1⟩:=HC.out _ (hr0.trans kk); go_simp; first | done | with_reducible rfl)
      try simp only[Act.put,Reg.l1,Reg.l2,Reg.l3]
      refine' Reg.tk3 (i := 21) (v := _) (some 31) [23, 24, 25, 26, 27, 28, 29, 30, 31, 32, 33, 34, 35, 36, 37, 38, 39, 40, 41, 42, 43, 44, 45, 46, 47] [] rfl (Or.inl ⟨by rfl, Or.inl ?hy64⟩) ?r_64
      case hy64=>(intro w' kk ss; obtain⟨x0,x1⟩:=HC.out _ (hr0.trans kk); go_simp; first | done | with_reducible rfl)
      try simp only[Act.put,Reg.l1,Reg.l2,Reg.l3]
      refine' Reg.tk3 (i := 22) (v := _) (some 32) [23, 24, 25, 26, 27, 28, 29, 30, 31, 32, 33, 34, 35, 36, 37, 38, 39, 40, 41, 42, 43, 44, 45, 46, 47] [] rfl (Or.inl ⟨by rfl, Or.inl ?hy65⟩) ?r_65
      case hy65=>(intro w' kk ss; obtain⟨x0,x1⟩:=HC.out _ (hr0.trans kk); go_simp; first | done | with_reducible rfl)
      try simp only[Act.put,Reg.l1,Reg.l2,Reg.l3]
      refine' Reg.tk3 (i := 23) (v := _) (some 33) [24, 25, 26, 27, 28, 29, 30, 31, 32, 33, 34, 35, 36, 37, 38, 39, 40, 41, 42, 43, 44, 45, 46, 47] [] rfl (Or.inl ⟨by rfl, Or.inl ?hy66⟩) ?r_66
      case hy66=>(intro w' kk ss; obtain⟨x0,x1⟩:=HC.out _ (hr0.trans kk); go_simp; first | done | with_reducible rfl)
      try simp only[Act.put,Reg.l1,Reg.l2,Reg.l3]
      refine' Reg.tk3 (i := 24) (v := _) (some 34) [25, 26, 27, 28, 29, 30, 31, 32, 33, 34, 35, 36, 37, 38, 39, 40, 41, 42, 43, 44, 45, 46, 47] [] rfl (Or.inl ⟨by rfl, Or.inl ?hy67⟩) ?r_67
      case hy67=>(intro w' kk ss; obtain⟨x0,x1⟩:=HC.out _ (hr0.trans kk); go_simp; first | done | with_reducible rfl)
      try simp only[Act.put,Reg.l1,Reg.l2,Reg.l3]
      refine' Reg.tk3 (i := 25) (v := _) (some 35) [26, 27, 28, 29, 30, 31, 32, 33, 34, 35, 36, 37, 38, 39, 40, 41, 42, 43, 44, 45, 46, 47] [] rfl (Or.inl ⟨by rfl, Or.inl ?hy68⟩) ?r_68
      case hy68=>(intro w' kk ss; obtain⟨x0,x1⟩:=HC.out _ (hr0.trans kk); go_simp; first | done | with_reducible rfl)
      try simp only[Act.put,Reg.l1,Reg.l2,Reg.l3]
      refine Reg.tk3 (i := 26) (v := .bool false) (some 36) [27, 28, 29, 30, 31, 32, 33, 34, 35, 36, 37, 38, 39, 40, 41, 42, 43, 44, 45, 46, 47] [] rfl (Or.inl ⟨by rfl, Or.inr ⟨136, #[.int .i64 hi], fun w' kk ss => ⟨?_, ?_⟩⟩⟩) ?_
      · (try dsimp only at ss); go_simp
      · exact within_at8 HH.out w'
      try simp only[Act.put,Reg.l1,Reg.l2,Reg.l3]
      refine' Reg.tk3 (i := 27) (v := _) (some 37) [28, 29, 30, 31, 32, 33, 34, 35, 36, 37, 38, 39, 40, 41, 42, 43, 44, 45, 46, 47] [] rfl (Or.inl ⟨by rfl, Or.inl ?hy69⟩) ?r_69
      case hy69=>(intro w' kk ss; obtain⟨x0,x1⟩:=HC.out _ (hr0.trans kk); go_simp; first | done | with_reducible rfl)
      try simp only[Act.put,Reg.l1,Reg.l2,Reg.l3]
      refine' Reg.tk3 (i := 28) (v := _) (some 38) [29, 30, 31, 32, 33, 34, 35, 36, 37, 38, 39, 40, 41, 42, 43, 44, 45, 46, 47] [] rfl (Or.inl ⟨by rfl, Or.inl ?hy70⟩) ?r_70
      case hy70=>(intro w' kk ss; obtain⟨x0,x1⟩:=HC.out _ (hr0.trans kk); go_simp; first | done | with_reducible rfl)
      try simp only[Act.put,Reg.l1,Reg.l2,Reg.l3]
      refine' Reg.tk3 (i := 29) (v := _) (some 39) [30, 31, 32, 33, 34, 35, 36, 37, 38, 39, 40, 41, 42, 43, 44, 45, 46, 47] [] rfl (Or.inl ⟨by rfl, Or.inl ?hy71⟩) ?r_71
      case hy71=>(intro w' kk ss; obtain⟨x0,x1⟩:=HC.out _ (hr0.trans kk); go_simp; first | done | with_reducible rfl)
      try simp only[Act.put,Reg.l1,Reg.l2,Reg.l3]
      refine Reg.tk3 (i := 30) (v := undef) (some 40) [31, 32, 33, 34, 35, 36, 37, 38, 39, 40, 41, 42, 43, 44, 45, 46, 47] [] rfl (Or.inr ⟨by rfl, rfl⟩) ?_
      try simp only[Act.put,Reg.l1,Reg.l2,Reg.l3]
      refine Reg.tk3 (i := 31) (v := undef) (some 41) [32, 33, 34, 35, 36, 37, 38, 39, 40, 41, 42, 43, 44, 45, 46, 47] [] rfl (Or.inr ⟨by rfl, rfl⟩) ?_
      try simp only[Act.put,Reg.l1,Reg.l2,Reg.l3]
      refine Reg.tk3 (i := 32) (v := undef) (some 42) [33, 34, 35, 36, 37, 38, 39, 40, 41, 42, 43, 44, 45, 46, 47] [] rfl (Or.inr ⟨by rfl, rfl⟩) ?_
      try simp only[Act.put,Reg.l1,Reg.l2,Reg.l3]
      refine Reg.tk3 (i := 33) (v := undef) (some 43) [35, 36, 37, 45, 46, 47] [] rfl (Or.inr ⟨by rfl, rfl⟩) ?_
      try simp only[Act.put,Reg.l1,Reg.l2,Reg.l3]
      refine Reg.tk3 (i := 34) (v := undef) (some 44) [35, 36, 37, 45, 46, 47] [] rfl (Or.inr ⟨by rfl, rfl⟩) ?_
      try simp only[Act.put,Reg.l1,Reg.l2,Reg.l3]
      refine Reg.tk3 (i := 35) (v := undef) (some 45) [36, 37, 45, 46, 47] [] rfl (Or.inr ⟨by rfl, rfl⟩) ?_
      try simp only[Act.put,Reg.l1,Reg.l2,Reg.l3]
      refine Reg.tk3 (i := 36) (v := undef) (some 46) [37, 45, 46, 47] [] rfl (Or.inr ⟨by rfl, rfl⟩) ?_
      try simp only[Act.put,Reg.l1,Reg.l2,Reg.l3]
      refine Reg.tk3 (i := 37) (v := undef) (some 47) [45, 46, 47] [] rfl (Or.inr ⟨by rfl, rfl⟩) ?_
      try simp only[Act.put,Reg.l1,Reg.l2,Reg.l3]
      refine Reg.tk3 (i := 38) (v := undef) (some 48) [41, 42, 43, 44, 45, 46, 47] [] rfl (Or.inr ⟨by rfl, rfl⟩) ?_
      try simp only[Act.put,Reg.l1,Reg.l2,Reg.l3]
      refine Reg.tk3 (i := 39) (v := undef) (some 49) [40, 41, 42, 43, 44, 45, 46, 47] [] rfl (Or.inr ⟨by rfl, rfl⟩) ?_
      try simp only[Act.put,Reg.l1,Reg.l2,Reg.l3]
      refine Reg.tk3 (i := 40) (v := undef) (some 50) [41, 42, 43, 44, 45, 46, 47] [] rfl (Or.inr ⟨by rfl, rfl⟩) ?_
      try simp only[Act.put,Reg.l1,Reg.l2,Reg.l3]
      refine Reg.tk3 (i := 41) (v := undef) (some 51) [42, 43, 44, 45, 46, 47] [] rfl (Or.inr ⟨by rfl, rfl⟩) ?_
      try simp only[Act.put,Reg.l1,Reg.l2,Reg.l3]
      refine Reg.tk3 (i := 42) (v := undef) (some 52) [43, 44, 45, 46, 47] [] rfl (Or.inr ⟨by rfl, rfl⟩) ?_
      try simp only[Act.put,Reg.l1,Reg.l2,Reg.l3]
      refine Reg.tk3 (i := 43) (v := undef) (some 53) [44, 45, 46, 47] [] rfl (Or.inr ⟨by rfl, rfl⟩) ?_
      try simp only[Act.put,Reg.l1,Reg.l2,Reg.l3]
      refine Reg.tk3 (i := 44) (v := undef) (some 54) [45, 46, 47] [] rfl (Or.inr ⟨by rfl, rfl⟩) ?_
      try simp only[Act.put,Reg.l1,Reg.l2,Reg.l3]
      refine Reg.tk3 (i := 45) (v := undef) (some 55) [46, 47] [] rfl (Or.inr ⟨by rfl, rfl⟩) ?_
      try simp only[Act.put,Reg.l1,Reg.l2,Reg.l3]
      refine Reg.tk3 (i := 46) (v := undef) (some 56) [47] [] rfl (Or.inr ⟨by rfl, rfl⟩) ?_
      try simp only[Act.put,Reg.l1,Reg.l2,Reg.l3]
      refine' Reg.tk3 (i := 47) (v := _) (some 57) [] [] rfl (Or.inl ⟨by rfl, Or.inl ?hy72⟩) ?r_72
      case hy72=>(intro w' kk ss; obtain⟨x0,x1⟩:=HC.out _ (hr0.trans kk); go_simp; first | done | with_reducible rfl)
      try simp only[Act.put,Reg.l1,Reg.l2,Reg.l3]
      refine Reg.wpG_done (by kernel_rfl) (fun we ke se => ?_) _
      refine NoPanic.normal ?_
      have hr0:=hr0.trans ke
      clear ke
      go_wp2
      go_ret
      exact .of HE.out (HW.out.trans hr0)
    have HH:=Lib.hid c3
    have ch:=(within_iff' hi).1 c3
    clear c3
    rcases HP.out with ⟨rfl,rfl⟩ | ⟨j,p,hj,hpj,rfl,q1,q2⟩
    · have HE:=Lib.hid ((okF_yes (by simp only; omega) c1 (by simp only[mx]; omega)).symm.trans ST.out)
      simp only[Nat.zero_mul,Nat.add_zero] at HC
      go_wp2
      have hr0:Since wr wr.drew:=Since.drew (Since.refl wr)
      refine wp_region_noPanic ?_
      refine Reg.wp_region_G (S:=fun _=>True) (fun j => [].contains j) (by kernel_rfl) trivial ?_
      refine' Reg.tk3 (i := 0) (v := _) (some 10) [2, 3, 4, 10, 11, 12, 13, 14, 15, 16, 17, 18, 19, 20, 21, 22, 23, 24, 25, 26, 27, 28, 29, 30, 31, 32, 33, 34, 35, 36, 37, 38, 39, 40, 41, 42, 43, 44, 45, 46, 47] [] rfl (Or.inl ⟨by rfl, Or.inl ?hy74⟩) ?r_74
      case hy74=>(intro w' kk ss; obtain⟨x0,x1⟩:=HC.out _ (hr0.trans kk); go_simp; first | done | with_reducible rfl)
      try simp only[Act.put,Reg.l1,Reg.l2,Reg.l3]
      refine' Reg.tk3 (i := 1) (v := _) (some 11) [2, 3, 4, 10, 11, 12, 13, 14, 15, 16, 17, 18, 19, 20, 21, 22, 23, 24, 25, 26, 27, 28, 29, 30, 31, 32, 33, 34, 35, 36, 37, 38, 39, 40, 41, 42, 43, 44, 45, 46, 47] [] rfl (Or.inl ⟨by rfl, Or.inl ?hy75⟩) ?r_75
      case hy75=>(intro w' kk ss; obtain⟨x0,x1⟩:=HC.out _ (hr0.trans kk); go_simp; first | done | with_reducible rfl)
      try simp only[Act.put,Reg.l1,Reg.l2,Reg.l3]
      refine' Reg.tk3 (i := 2) (v := _) (some 12) [3, 4, 10, 11, 12, 13, 14, 15, 16, 17, 18, 19, 20, 21, 22, 23, 24, 25, 26, 27, 28, 29, 30, 31, 32, 33, 34, 35, 36, 37, 38, 39, 40, 41, 42, 43, 44, 45, 46, 47] [] rfl (Or.inl ⟨by rfl, Or.inl ?hy76⟩) ?r_76
      case hy76=>(intro w' kk ss; obtain⟨x0,x1⟩:=HC.out _ (hr0.trans kk); go_simp; first | done | with_reducible rfl)
      try simp only[Act.put,Reg.l1,Reg.l2,Reg.l3]
      refine' Reg.tk3 (i := 3) (v := _) (some 13) [4, 10, 11, 12, 13, 14, 15, 16, 17, 18, 19, 20, 21, 22, 23, 24, 25, 26, 27, 28, 29, 30, 31, 32, 33, 34, 35, 36, 37, 38, 39, 40, 41, 42, 43, 44, 45, 46, 47] [] rfl (Or.inl ⟨by rfl, Or.inl ?hy77⟩) ?r_77
      case hy77=>(intro w' kk ss; obtain⟨x0,x1⟩:=HC.out _ (hr0.trans kk); go_simp; first | done | with_reducible rfl)
      try simp only[Act.put,Reg.l1,Reg.l2,Reg.l3]
      refine' Reg.tk3 (i := 4) (v := _) (some 14) [10, 11, 12, 13, 14, 15, 16, 17, 18, 19, 20, 21, 22, 23, 24, 25, 26, 27, 28, 29, 30, 31, 32, 33, 34, 35, 36, 37, 38, 39, 40, 41, 42, 43, 44, 45, 46, 47] [] rfl (Or.inl ⟨by rfl, Or.inl ?hy78⟩) ?r_78
      case hy78=>(intro w' kk ss; obtain⟨x0,x1⟩:=HC.out _ (hr0.trans kk); go_simp; first | done | with_reducible rfl)
      try simp only[Act.put,Reg.l1,Reg.l2,Reg.l3]
      refine' Reg.tk3 (i := 5) (v := _) (some 15) [7, 8, 9, 10, 11, 12, 13, 14, 15, 16, 17, 18, 19, 20, 21, 22, 23, 24, 25, 26, 27, 28, 29, 30, 31, 32, 33, 34, 35, 36, 37, 38, 39, 40, 41, 42, 43, 44, 45, 46, 47] [] rfl (Or.inl ⟨by rfl, Or.inl ?hy79⟩) ?r_79
      case hy79=>(intro w' kk ss; obtain⟨x0,x1⟩:=HC.out _ (hr0.trans kk); go_simp; first | done | with_reducible rfl)
      try simp only[Act.put,Reg.l1,Reg.l2,Reg.l3]
      refine' Reg.tk3 (i := 6) (v := _) (some 16) [7, 8, 9, 10, 11, 12, 13, 14, 15, 16, 17, 18, 19, 20, 21, 22, 23, 24, 25, 26, 27, 28, 29, 30, 31, 32, 33, 34, 35, 36, 37, 38, 39, 40, 41, 42, 43, 44, 45, 46, 47] [] rfl (Or.inl ⟨by rfl, Or.inl ?hy80⟩) ?r_80
      case hy80=>(intro w' kk ss; obtain⟨x0,x1⟩:=HC.out _ (hr0.trans kk); go_simp; first | done | with_reducible rfl)
      try simp only[Act.put,Reg.l1,Reg.l2,Reg.l3]
      refine' Reg.tk3 (i := 7) (v := _) (some 17) [8, 9, 10, 11, 12, 13, 14, 15, 16, 17, 18, 19, 20, 21, 22, 23, 24, 25, 26, 27, 28, 29, 30, 31, 32, 33, 34, 35, 36, 37, 38, 39, 40, 41, 42, 43, 44, 45, 46, 47] [] rfl (Or.inl ⟨by rfl, Or.inl ?hy81⟩) ?r_81
      case hy81=>(intro w' kk ss; obtain⟨x0,x1⟩:=HC.out _ (hr0.trans kk); go_simp; first | done | with_reducible rfl)
      try simp only[Act.put,Reg.l1,Reg.l2,Reg.l3]
      refine' Reg.tk3 (i := 8) (v := _) (some 18) [9, 10, 11, 12, 13, 14, 15, 16, 17, 18, 19, 20, 21, 22, 23, 24, 25, 26, 27, 28, 29, 30, 31, 32, 33, 34, 35, 36, 37, 38, 39, 40, 41, 42, 43, 44, 45, 46, 47] [] rfl (Or.inl ⟨by rfl, Or.inl ?hy82⟩) ?r_82
      case hy82=>(intro w' kk ss; obtain⟨x0,x1⟩:=HC.out _ (hr0.trans kk); go_simp; first | done | with_reducible rfl)
      try simp only[Act.put,Reg.l1,Reg.l2,Reg.l3]
      refine' Reg.tk3 (i := 9) (v := _) (some 19) [10, 11, 12, 13, 14, 15, 16, 17, 18, 19, 20, 21, 22, 23, 24, 25, 26, 27, 28, 29, 30, 31, 32, 33, 34, 35, 36, 37, 38, 39, 40, 41, 42, 43, 44, 45, 46, 47] [] rfl (Or.inl ⟨by rfl, Or.inl ?hy83⟩) ?r_83
      case hy83=>(intro w' kk ss; obtain⟨x0,x1⟩:=HC.out _ (hr0.trans kk); go_simp; first | done | with_reducible rfl)
      try simp only[Act.put,Reg.l1,Reg.l2,Reg.l3]
      refine' Reg.tk3 (i := 10) (v := _) (some 20) [11, 12, 13, 14, 15, 16, 17, 18, 19, 20, 21, 22, 23, 24, 25, 26, 27, 28, 29, 30, 31, 32, 33, 34, 35, 36, 37, 38, 39, 40, 41, 42, 43, 44, 45, 46, 47] [] rfl (Or.inl ⟨by rfl, Or.inl ?hy84⟩) ?r_84
      case hy84=>(intro w' kk ss; obtain⟨x0,x1⟩:=HC.out _ (hr0.trans kk); go_simp; first | done | with_reducible rfl)
      try simp only[Act.put,Reg.l1,Reg.l2,Reg.l3]
      refine' Reg.tk3 (i := 11) (v := _) (some 21) [12, 13, 14, 15, 16, 17, 18, 19, 20, 21, 22, 23, 24, 25, 26, 27, 28, 29, 30, 31, 32, 33, 34, 35, 36, 37, 38, 39, 40, 41, 42, 43, 44, 45, 46, 47] [] rfl (Or.inl ⟨by rfl, Or.inl ?hy85⟩) ?r_85
      case hy85=>(intro w' kk ss; obtain⟨x0,x1⟩:=HC.out _ (hr0.trans kk); go_simp; first | done | with_reducible rfl)
      try simp only[Act.put,Reg.l1,Reg.l2,Reg.l3]
      refine' Reg.tk3 (i := 12) (v := _) (some 22) [14, 15, 16, 17, 18, 19, 20, 21, 22, 23, 24, 25, 26, 27, 28, 29, 30, 31, 32, 33, 34, 35, 36, 37, 38, 39, 40, 41, 42, 43, 44, 45, 46, 47] [] rfl (Or.inl ⟨by rfl, Or.inl ?hy86⟩) ?r_86
      case hy86=>(intro w' kk ss; obtain⟨x0,x1⟩:=HC.out _ (hr0.trans kk); go_simp; first | done | with_reducible rfl)
      try simp only[Act.put,Reg.l1,Reg.l2,Reg.l3]
      refine' Reg.tk3 (i := 13) (v := _) (some 23) [14, 15, 16, 17, 18, 19, 20, 21, 22, 23, 24, 25, 26, 27, 28, 29, 30, 31, 32, 33, 34, 35, 36, 37, 38, 39, 40, 41, 42, 43, 44, 45, 46, 47] [] rfl (Or.inl ⟨by rfl, Or.inl ?hy87⟩) ?r_87
      case hy87=>(intro w' kk ss; obtain⟨x0,x1⟩:=HC.out _ (hr0.trans kk); go_simp; first | done | with_reducible rfl)
      try simp only[Act.put,Reg.l1,Reg.l2,Reg.l3]
      refine' Reg.tk3 (i := 14) (v := _) (some 24) [15, 16, 17, 18, 19, 20, 21, 22, 23, 24, 25, 26, 27, 28, 29, 30, 31, 32, 33, 34, 35, 36, 37, 38, 39, 40, 41, 42, 43, 44, 45, 46, 47] [] rfl (Or.inl ⟨by rfl, Or.inl ?hy88⟩) ?r_88
      case hy88=>(intro w' kk ss; obtain⟨x0,x1⟩:=HC.out _ (hr0.trans kk); go_simp; first | done | with_reducible rfl)
      try simp only[Act.put,Reg.l1,Reg.l2,Reg.l3]
      refine' Reg.tk3 (i := 15) (v := _) (some 25) [16, 17, 18, 19, 20, 21, 22, 23, 24, 25, 26, 27, 28, 29, 30, 31, 32, 33, 34, 35, 36, 37, 38, 39, 40, 41, 42, 43, 44, 45, 46, 47] [] rfl (Or.inl ⟨by rfl, Or.inl ?hy89⟩) ?r_89
      case hy89=>(intro w' kk ss; obtain⟨x0,x1⟩:=HC.out _ (hr0.trans kk); go_simp; first | done | with_reducible rfl)
      try simp only[Act.put,Reg.l1,Reg.l2,Reg.l3]
      refine' Reg.tk3 (i := 16) (v := _) (some 26) [17, 18, 19, 20, 21, 22, 23, 24, 25, 26, 27, 28, 29, 30, 31, 32, 33, 34, 35, 36, 37, 38, 39, 40, 41, 42, 43, 44, 45, 46, 47] [] rfl (Or.inl ⟨by rfl, Or.inl ?hy90⟩) ?r_90
      case hy90=>(intro w' kk ss; obtain⟨x0,x1⟩:=HC.out _ (hr0.trans kk); go_simp; first | done | with_reducible rfl)
      try simp only[Act.put,Reg.l1,Reg.l2,Reg.l3]
      refine Reg.tk3 (i := 17) (v := .bool true) (some 27) [18, 19, 20, 21, 22, 23, 24, 25, 26, 27, 28, 29, 30, 31, 32, 33, 34, 35, 36, 37, 38, 39, 40, 41, 42, 43, 44, 45, 46, 47] [] rfl (Or.inl ⟨by rfl, Or.inr ⟨136, #[.int .i64 lo], fun w' kk ss => ⟨?_, ?_⟩⟩⟩) ?_
      · (try dsimp only at ss); go_simp
      · exact within_at8 HL.out w'
      try simp only[Act.put,Reg.l1,Reg.l2,Reg.l3]
      refine' Reg.tk3 (i := 18) (v := _) (some 28) [19, 20, 21, 22, 23, 24, 25, 26, 27, 28, 29, 30, 31, 32, 33, 34, 35, 36, 37, 38, 39, 40, 41, 42, 43, 44, 45, 46, 47] [] rfl (Or.inl ⟨by rfl, Or.inl ?hy91⟩) ?r_91
      case hy91=>(intro w' kk ss; obtain⟨x0,x1⟩:=HC.out _ (hr0.trans kk); go_simp; first | done | with_reducible rfl)
      try simp only[Act.put,Reg.l1,Reg.l2,Reg.l3]
      refine' Reg.tk3 (i := 19) (v := _) (some 29) [20, 21, 22, 23, 24, 25, 26, 27, 28, 29, 30, 31, 32, 33, 34, 35, 36, 37, 38, 39, 40, 41, 42, 43, 44, 45, 46, 47] [] rfl (Or.inl ⟨by rfl, Or.inl ?hy92⟩) ?r_92
      case hy92=>(intro w' kk ss; obtain⟨x0,x1⟩:=HC.out _ (hr0.trans kk); go_simp; first | done | with_reducible rfl)
      try simp only[Act.put,Reg.l1,Reg.l2,Reg.l3]
      refine' Reg.tk3 (i := 20) (v := _) (some 30) [21, 22, 23, 24, 25, 26, 27, 28, 29, 30, 31, 32, 33, 34, 35, 36, 37, 38, 39, 40, 41, 42, 43, 44, 45, 46, 47] [] rfl (Or.inl ⟨by rfl, Or.inl ?hy93⟩) ?r_93
      case hy93=>(intro w' kk ss; obtain⟨x0,x1⟩:=HC.out _ (hr0.trans kk); go_simp; first | done | with_reducible rfl)
      try simp only[Act.put,Reg.l1,Reg.l2,Reg.l3]
      refine' Reg.tk3 (i := 21) (v := _) (some 31) [23, 24, 25, 26, 27, 28, 29, 30, 31, 32, 33, 34, 35, 36, 37, 38, 39, 40, 41, 42, 43, 44, 45, 46, 47] [] rfl (Or.inl ⟨by rfl, Or.inl ?hy94⟩) ?r_94
      case hy94=>(intro w' kk ss; obtain⟨x0,x1⟩:=HC.out _ (hr0.trans kk); go_simp; first | done | with_reducible rfl)
      try simp only[Act.put,Reg.l1,Reg.l2,Reg.l3]
      refine' Reg.tk3 (i := 22) (v := _) (some 32) [23, 24, 25, 26, 27, 28, 29, 30, 31, 32, 33, 34, 35, 36, 37, 38, 39, 40, 41, 42, 43, 44, 45, 46, 47] [] rfl (Or.inl ⟨by rfl, Or.inl ?hy95⟩) ?r_95
      case hy95=>(intro w' kk ss; obtain⟨x0,x1⟩:=HC.out _ (hr0.trans kk); go_simp; first | done | with_reducible rfl)
      try simp only[Act.put,Reg.l1,Reg.l2,Reg.l3]
      refine' Reg.tk3 (i := 23) (v := _) (some 33) [24, 25, 26, 27, 28, 29, 30, 31, 32, 33, 34, 35, 36, 37, 38, 39, 40, 41, 42, 43, 44, 45, 46, 47] [] rfl (Or.inl ⟨by rfl, Or.inl ?hy96⟩) ?r_96
      case hy96=>(intro w' kk ss; obtain⟨x0,x1⟩:=HC.out _ (hr0.trans kk); go_simp; first | done | with_reducible rfl)
      try simp only[Act.put,Reg.l1,Reg.l2,Reg.l3]
      refine' Reg.tk3 (i := 24) (v := _) (some 34) [25, 26, 27, 28, 29, 30, 31, 32, 33, 34, 35, 36, 37, 38, 39, 40, 41, 42, 43, 44, 45, 46, 47] [] rfl (Or.inl ⟨by rfl, Or.inl ?hy97⟩) ?r_97
      case hy97=>(intro w' kk ss; obtain⟨x0,x1⟩:=HC.out _ (hr0.trans kk); go_simp; first | done | with_reducible rfl)
      try simp only[Act.put,Reg.l1,Reg.l2,Reg.l3]
      refine' Reg.tk3 (i := 25) (v := _) (some 35) [26, 27, 28, 29, 30, 31, 32, 33, 34, 35, 36, 37, 38, 39, 40, 41, 42, 43, 44, 45, 46, 47] [] rfl (Or.inl ⟨by rfl, Or.inl ?hy98⟩) ?r_98
      case hy98=>(intro w' kk ss; obtain⟨x0,x1⟩:=HC.out _ (hr0.trans kk); go_simp; first | done | with_reducible rfl)
      try simp only[Act.put,Reg.l1,Reg.l2,Reg.l3]
      refine Reg.tk3 (i := 26) (v := .bool true) (some 36) [27, 28, 29, 30, 31, 32, 33, 34, 35, 36, 37, 38, 39, 40, 41, 42, 43, 44, 45, 46, 47] [] rfl (Or.inl ⟨by rfl, Or.inr ⟨136, #[.int .i64 hi], fun w' kk ss => ⟨?_, ?_⟩⟩⟩) ?_
      · (try dsimp only at ss); go_simp
      · exact within_at8 HH.out w'
      try simp only[Act.put,Reg.l1,Reg.l2,Reg.l3]
      refine' Reg.tk3 (i := 27) (v := _) (some 37) [28, 29, 30, 31, 32, 33, 34, 35, 36, 37, 38, 39, 40, 41, 42, 43, 44, 45, 46, 47] [] rfl (Or.inl ⟨by rfl, Or.inl ?hy99⟩) ?r_99
      case hy99=>(intro w' kk ss; obtain⟨x0,x1⟩:=HC.out _ (hr0.trans kk); go_simp; first | done | with_reducible rfl)
      try simp only[Act.put,Reg.l1,Reg.l2,Reg.l3]
      refine' Reg.tk3 (i := 28) (v := _) (some 38) [29, 30, 31, 32, 33, 34, 35, 36, 37, 38, 39, 40, 41, 42, 43, 44, 45, 46, 47] [] rfl (Or.inl ⟨by rfl, Or.inl ?hy100⟩) ?r_100
      case hy100=>(intro w' kk ss; obtain⟨x0,x1⟩:=HC.out _ (hr0.trans kk); go_simp; first | done | with_reducible rfl)
      try simp only[Act.put,Reg.l1,Reg.l2,Reg.l3]
      refine' Reg.tk3 (i := 29) (v := _) (some 39) [30, 31, 32, 33, 34, 35, 36, 37, 38, 39, 40, 41, 42, 43, 44, 45, 46, 47] [] rfl (Or.inl ⟨by rfl, Or.inl ?hy101⟩) ?r_101
      case hy101=>(intro w' kk ss; obtain⟨x0,x1⟩:=HC.out _ (hr0.trans kk); go_simp; first | done | with_reducible rfl)
      try simp only[Act.put,Reg.l1,Reg.l2,Reg.l3]
      refine' Reg.tk3 (i := 30) (v := _) (some 40) [31, 32, 33, 34, 35, 36, 37, 38, 39, 40, 41, 42, 43, 44, 45, 46, 47] [] rfl (Or.inl ⟨by rfl, Or.inl ?hy102⟩) ?r_102
      case hy102=>(intro w' kk ss; obtain⟨x0,x1⟩:=HC.out _ (hr0.trans kk); go_simp; first | done | with_reducible rfl)
      try simp only[Act.put,Reg.l1,Reg.l2,Reg.l3]
      refine' Reg.tk3 (i := 31) (v := _) (some 41) [32, 33, 34, 35, 36, 37, 38, 39, 40, 41, 42, 43, 44, 45, 46, 47] [] rfl (Or.inl ⟨by rfl, Or.inl ?hy103⟩) ?r_103
      case hy103=>(intro w' kk ss; obtain⟨x0,x1⟩:=HC.out _ (hr0.trans kk); go_simp; first | done | with_reducible rfl)
      try simp only[Act.put,Reg.l1,Reg.l2,Reg.l3]
      refine' Reg.tk3 (i := 32) (v := _) (some 42) [33, 34, 35, 36, 37, 38, 39, 40, 41, 42, 43, 44, 45, 46, 47] [] rfl (Or.inl ⟨by rfl, Or.inl ?hy104⟩) ?r_104
      case hy104=>(intro w' kk ss; obtain⟨x0,x1⟩:=HC.out _ (hr0.trans kk); go_simp; first | done | with_reducible rfl)
      try simp only[Act.put,Reg.l1,Reg.l2,Reg.l3]
      refine Reg.tk3 (i := 33) (v := undef) (some 43) [35, 36, 37, 45, 46, 47] [] rfl (Or.inr ⟨by rfl, rfl⟩) ?_
      try simp only[Act.put,Reg.l1,Reg.l2,Reg.l3]
      refine Reg.tk3 (i := 34) (v := undef) (some 44) [35, 36, 37, 45, 46, 47] [] rfl (Or.inr ⟨by rfl, rfl⟩) ?_
      try simp only[Act.put,Reg.l1,Reg.l2,Reg.l3]
      refine Reg.tk3 (i := 35) (v := undef) (some 45) [36, 37, 45, 46, 47] [] rfl (Or.inr ⟨by rfl, rfl⟩) ?_
      try simp only[Act.put,Reg.l1,Reg.l2,Reg.l3]
      refine Reg.tk3 (i := 36) (v := undef) (some 46) [37, 45, 46, 47] [] rfl (Or.inr ⟨by rfl, rfl⟩) ?_
      try simp only[Act.put,Reg.l1,Reg.l2,Reg.l3]
      refine Reg.tk3 (i := 37) (v := undef) (some 47) [45, 46, 47] [] rfl (Or.inr ⟨by rfl, rfl⟩) ?_
      try simp only[Act.put,Reg.l1,Reg.l2,Reg.l3]
      refine Reg.tk3 (i := 38) (v := undef) (some 48) [41, 42, 43, 44, 45, 46, 47] [] rfl (Or.inr ⟨by rfl, rfl⟩) ?_
      try simp only[Act.put,Reg.l1,Reg.l2,Reg.l3]
      refine Reg.tk3 (i := 39) (v := undef) (some 49) [40, 41, 42, 43, 44, 45, 46, 47] [] rfl (Or.inr ⟨by rfl, rfl⟩) ?_
      try simp only[Act.put,Reg.l1,Reg.l2,Reg.l3]
      refine Reg.tk3 (i := 40) (v := undef) (some 50) [41, 42, 43, 44, 45, 46, 47] [] rfl (Or.inr ⟨by rfl, rfl⟩) ?_
      try simp only[Act.put,Reg.l1,Reg.l2,Reg.l3]
      refine Reg.tk3 (i := 41) (v := undef) (some 51) [42, 43, 44, 45, 46, 47] [] rfl (Or.inr ⟨by rfl, rfl⟩) ?_
      try simp only[Act.put,Reg.l1,Reg.l2,Reg.l3]
      refine Reg.tk3 (i := 42) (v := undef) (some 52) [43, 44, 45, 46, 47] [] rfl (Or.inr ⟨by rfl, rfl⟩) ?_
      try simp only[Act.put,Reg.l1,Reg.l2,Reg.l3]
      refine Reg.tk3 (i := 43) (v := undef) (some 53) [44, 45, 46, 47] [] rfl (Or.inr ⟨by rfl, rfl⟩) ?_
      try simp only[Act.put,Reg.l1,Reg.l2,Reg.l3]
      refine Reg.tk3 (i := 44) (v := undef) (some 54) [45, 46, 47] [] rfl (Or.inr ⟨by rfl, rfl⟩) ?_
      try simp only[Act.put,Reg.l1,Reg.l2,Reg.l3]
      refine Reg.tk3 (i := 45) (v := undef) (some 55) [46, 47] [] rfl (Or.inr ⟨by rfl, rfl⟩) ?_
      try simp only[Act.put,Reg.l1,Reg.l2,Reg.l3]
      refine' Reg.tk3 (i := 46) (v := _) (some 56) [47] [] rfl (Or.inl ⟨by rfl, Or.inl ?hy105⟩) ?r_105
      case hy105=>(intro w' kk ss; obtain⟨x0,x1⟩:=HC.out _ (hr0.trans kk); go_simp; first | done | with_reducible rfl)
      try simp only[Act.put,Reg.l1,Reg.l2,Reg.l3]
      refine' Reg.tk3 (i := 47) (v := _) (some 57) [] [] rfl (Or.inl ⟨by rfl, Or.inl ?hy106⟩) ?r_106
      case hy106=>(intro w' kk ss; obtain⟨x0,x1⟩:=HC.out _ (hr0.trans kk); go_simp; first | done | with_reducible rfl)
      try simp only[Act.put,Reg.l1,Reg.l2,Reg.l3]
      refine Reg.wpG_done (by kernel_rfl) (fun we ke se => ?_) _
      refine NoPanic.normal ?_
      have hr0:=hr0.trans ke
      clear ke
      go_wp2
      go_roundw
      case rel=>exact⟨1,hi+2,by go_num,by omega,.inr ⟨0,(lo,hi),rfl,HK.out,rfl,ch.1,ch.2⟩,HE.out,HW.out.trans hr0⟩
      case measure=>simp[intOf]; omega
    · obtain⟨p0,p1⟩:=p
      simp only at q1 q2 ST hbb
      have hjl:j<l.length:=by have:=HN.out; omega
      obtain⟨g',o',eq,-,f1⟩:=elR (H.out.since stR HW.out) hjl
      injection eq with eq
      injection eq with eq1 eq2
      subst eq1 eq2
      rw[List.getElem?_eq_getElem hjl,Option.some.injEq] at hpj
      rw[hpj] at f1
      have HC:=Lib.hid (fun W (kk:Since wr W)=>(show W.cell? ⟨g,o+k*2,none⟩=some (.int .i64 lo)∧W.cell? ⟨g,o+k*2+1,none⟩=some (.int .i64 hi)∧W.cell? ⟨g,o+j*2+1,none⟩=some (.int .i64 p1) from⟨(HC.out W kk).1,(HC.out W kk).2,(kk.cell _ (World.block_lt_of_cell? _ _ f1)).trans f1⟩))
      have hjn:(j:Int)<(n:Int):=by omega
      have hkj:(k:Int) - 1=(j:Int):=by omega
      have hwm:IntKind.i64.wrap (j:Int)=(j:Int):=by simp[IntKind.wrap,IntKind.bits,IntKind.signed]; omega
      have hwk:IntKind.i64.wrap ((k:Int) - 1)=(j:Int):=by rw[hkj]; exact hwm
      have hwp:IntKind.i64.wrap (p1+2)=p1+2:=by simp[IntKind.wrap,IntKind.bits,IntKind.signed]; omega
      have hk0:(k:Int)>0:=by omega
      have hk00:0<k:=by omega
      clear hpj f1 hjl HP hj
      by_cases c4:lo<p1+2
      · have HE:=Lib.hid ((okF_no1 (by simp only; omega)).symm.trans ST.out)
        go_wp2
        have hr0:Since wr wr.drew:=Since.drew (Since.refl wr)
        refine wp_region_noPanic ?_
        refine Reg.wp_region_G (S:=fun _=>True) (fun j => [].contains j) (by kernel_rfl) trivial ?_
        refine' Reg.tk3 (i := 0) (v := _) (some 10) [2, 3, 4, 10, 11, 12, 13, 14, 15, 16, 17, 18, 19, 20, 21, 22, 23, 24, 25, 26, 27, 28, 29, 30, 31, 32, 33, 34, 35, 36, 37, 38, 39, 40, 41, 42, 43, 44, 45, 46, 47] [] rfl (Or.inl ⟨by rfl, Or.inl ?hy108⟩) ?r_108
        case hy108=>(intro w' kk ss; obtain⟨x0,x1,y1⟩:=HC.out _ (hr0.trans kk); go_simp; first | done | with_reducible rfl)
        try simp only[Act.put,Reg.l1,Reg.l2,Reg.l3]
        refine' Reg.tk3 (i := 1) (v := _) (some 11) [2, 3, 4, 10, 11, 12, 13, 14, 15, 16, 17, 18, 19, 20, 21, 22, 23, 24, 25, 26, 27, 28, 29, 30, 31, 32, 33, 34, 35, 36, 37, 38, 39, 40, 41, 42, 43, 44, 45, 46, 47] [] rfl (Or.inl ⟨by rfl, Or.inl ?hy109⟩) ?r_109
        case hy109=>(intro w' kk ss; obtain⟨x0,x1,y1⟩:=HC.out _ (hr0.trans kk); go_simp; first | done | with_reducible rfl)
        try simp only[Act.put,Reg.l1,Reg.l2,Reg.l3]
        refine' Reg.tk3 (i := 2) (v := _) (some 12) [3, 4, 10, 11, 12, 13, 14, 15, 16, 17, 18, 19, 20, 21, 22, 23, 24, 25, 26, 27, 28, 29, 30, 31, 32, 33, 34, 35, 36, 37, 38, 39, 40, 41, 42, 43, 44, 45, 46, 47] [] rfl (Or.inl ⟨by rfl, Or.inl ?hy110⟩) ?r_110
        case hy110=>(intro w' kk ss; obtain⟨x0,x1,y1⟩:=HC.out _ (hr0.trans kk); go_simp; first | done | with_reducible rfl)
        try simp only[Act.put,Reg.l1,Reg.l2,Reg.l3]
        refine' Reg.tk3 (i := 3) (v := _) (some 13) [4, 10, 11, 12, 13, 14, 15, 16, 17, 18, 19, 20, 21, 22, 23, 24, 25, 26, 27, 28, 29, 30, 31, 32, 33, 34, 35, 36, 37, 38, 39, 40, 41, 42, 43, 44, 45, 46, 47] [] rfl (Or.inl ⟨by rfl, Or.inl ?hy111⟩) ?r_111
        case hy111=>(intro w' kk ss; obtain⟨x0,x1,y1⟩:=HC.out _ (hr0.trans kk); go_simp; first | done | with_reducible rfl)
        try simp only[Act.put,Reg.l1,Reg.l2,Reg.l3]
        refine' Reg.tk3 (i := 4) (v := _) (some 14) [10, 11, 12, 13, 14, 15, 16, 17, 18, 19, 20, 21, 22, 23, 24, 25, 26, 27, 28, 29, 30, 31, 32, 33, 34, 35, 36, 37, 38, 39, 40, 41, 42, 43, 44, 45, 46, 47] [] rfl (Or.inl ⟨by rfl, Or.inl ?hy112⟩) ?r_112
        case hy112=>(intro w' kk ss; obtain⟨x0,x1,y1⟩:=HC.out _ (hr0.trans kk); go_simp; first | done | with_reducible rfl)
        try simp only[Act.put,Reg.l1,Reg.l2,Reg.l3]
        refine' Reg.tk3 (i := 5) (v := _) (some 15) [7, 8, 9, 10, 11, 12, 13, 14, 15, 16, 17, 18, 19, 20, 21, 22, 23, 24, 25, 26, 27, 28, 29, 30, 31, 32, 33, 34, 35, 36, 37, 38, 39, 40, 41, 42, 43, 44, 45, 46, 47] [] rfl (Or.inl ⟨by rfl, Or.inl ?hy113⟩) ?r_113
        case hy113=>(intro w' kk ss; obtain⟨x0,x1,y1⟩:=HC.out _ (hr0.trans kk); go_simp; first | done | with_reducible rfl)
        try simp only[Act.put,Reg.l1,Reg.l2,Reg.l3]
        refine' Reg.tk3 (i := 6) (v := _) (some 16) [7, 8, 9, 10, 11, 12, 13, 14, 15, 16, 17, 18, 19, 20, 21, 22, 23, 24, 25, 26, 27, 28, 29, 30, 31, 32, 33, 34, 35, 36, 37, 38, 39, 40, 41, 42, 43, 44, 45, 46, 47] [] rfl (Or.inl ⟨by rfl, Or.inl ?hy114⟩) ?r_114
        case hy114=>(intro w' kk ss; obtain⟨x0,x1,y1⟩:=HC.out _ (hr0.trans kk); go_simp; first | done | with_reducible rfl)
        try simp only[Act.put,Reg.l1,Reg.l2,Reg.l3]
        refine' Reg.tk3 (i := 7) (v := _) (some 17) [8, 9, 10, 11, 12, 13, 14, 15, 16, 17, 18, 19, 20, 21, 22, 23, 24, 25, 26, 27, 28, 29, 30, 31, 32, 33, 34, 35, 36, 37, 38, 39, 40, 41, 42, 43, 44, 45, 46, 47] [] rfl (Or.inl ⟨by rfl, Or.inl ?hy115⟩) ?r_115
        case hy115=>(intro w' kk ss; obtain⟨x0,x1,y1⟩:=HC.out _ (hr0.trans kk); go_simp; first | done | with_reducible rfl)
        try simp only[Act.put,Reg.l1,Reg.l2,Reg.l3]
        refine' Reg.tk3 (i := 8) (v := _) (some 18) [9, 10, 11, 12, 13, 14, 15, 16, 17, 18, 19, 20, 21, 22, 23, 24, 25, 26, 27, 28, 29, 30, 31, 32, 33, 34, 35, 36, 37, 38, 39, 40, 41, 42, 43, 44, 45, 46, 47] [] rfl (Or.inl ⟨by rfl, Or.inl ?hy116⟩) ?r_116
        case hy116=>(intro w' kk ss; obtain⟨x0,x1,y1⟩:=HC.out _ (hr0.trans kk); go_simp; first | done | with_reducible rfl)
        try simp only[Act.put,Reg.l1,Reg.l2,Reg.l3]
        refine' Reg.tk3 (i := 9) (v := _) (some 19) [10, 11, 12, 13, 14, 15, 16, 17, 18, 19, 20, 21, 22, 23, 24, 25, 26, 27, 28, 29, 30, 31, 32, 33, 34, 35, 36, 37, 38, 39, 40, 41, 42, 43, 44, 45, 46, 47] [] rfl (Or.inl ⟨by rfl, Or.inl ?hy117⟩) ?r_117
        case hy117=>(intro w' kk ss; obtain⟨x0,x1,y1⟩:=HC.out _ (hr0.trans kk); go_simp; first | done | with_reducible rfl)
        try simp only[Act.put,Reg.l1,Reg.l2,Reg.l3]
        refine' Reg.tk3 (i := 10) (v := _) (some 20) [11, 12, 13, 14, 15, 16, 17, 18, 19, 20, 21, 22, 23, 24, 25, 26, 27, 28, 29, 30, 31, 32, 33, 34, 35, 36, 37, 38, 39, 40, 41, 42, 43, 44, 45, 46, 47] [] rfl (Or.inl ⟨by rfl, Or.inl ?hy118⟩) ?r_118
        case hy118=>(intro w' kk ss; obtain⟨x0,x1,y1⟩:=HC.out _ (hr0.trans kk); go_simp; first | done | with_reducible rfl)
        try simp only[Act.put,Reg.l1,Reg.l2,Reg.l3]
        refine' Reg.tk3 (i := 11) (v := _) (some 21) [12, 13, 14, 15, 16, 17, 18, 19, 20, 21, 22, 23, 24, 25, 26, 27, 28, 29, 30, 31, 32, 33, 34, 35, 36, 37, 38, 39, 40, 41, 42, 43, 44, 45, 46, 47] [] rfl (Or.inl ⟨by rfl, Or.inl ?hy119⟩) ?r_119
        case hy119=>(intro w' kk ss; obtain⟨x0,x1,y1⟩:=HC.out _ (hr0.trans kk); go_simp; first | done | with_reducible rfl)
        try simp only[Act.put,Reg.l1,Reg.l2,Reg.l3]
        refine' Reg.tk3 (i := 12) (v := _) (some 22) [14, 15, 16, 17, 18, 19, 20, 21, 22, 23, 24, 25, 26, 27, 28, 29, 30, 31, 32, 33, 34, 35, 36, 37, 38, 39, 40, 41, 42, 43, 44, 45, 46, 47] [] rfl (Or.inl ⟨by rfl, Or.inl ?hy120⟩) ?r_120
        case hy120=>(intro w' kk ss; obtain⟨x0,x1,y1⟩:=HC.out _ (hr0.trans kk); go_simp; first | done | with_reducible rfl)
        try simp only[Act.put,Reg.l1,Reg.l2,Reg.l3]
        refine' Reg.tk3 (i := 13) (v := _) (some 23) [14, 15, 16, 17, 18, 19, 20, 21, 22, 23, 24, 25, 26, 27, 28, 29, 30, 31, 32, 33, 34, 35, 36, 37, 38, 39, 40, 41, 42, 43, 44, 45, 46, 47] [] rfl (Or.inl ⟨by rfl, Or.inl ?hy121⟩) ?r_121
        case hy121=>(intro w' kk ss; obtain⟨x0,x1,y1⟩:=HC.out _ (hr0.trans kk); go_simp; first | done | with_reducible rfl)
        try simp only[Act.put,Reg.l1,Reg.l2,Reg.l3]
        refine' Reg.tk3 (i := 14) (v := _) (some 24) [15, 16, 17, 18, 19, 20, 21, 22, 23, 24, 25, 26, 27, 28, 29, 30, 31, 32, 33, 34, 35, 36, 37, 38, 39, 40, 41, 42, 43, 44, 45, 46, 47] [] rfl (Or.inl ⟨by rfl, Or.inl ?hy122⟩) ?r_122
        case hy122=>(intro w' kk ss; obtain⟨x0,x1,y1⟩:=HC.out _ (hr0.trans kk); go_simp; first | done | with_reducible rfl)
        try simp only[Act.put,Reg.l1,Reg.l2,Reg.l3]
        refine' Reg.tk3 (i := 15) (v := _) (some 25) [16, 17, 18, 19, 20, 21, 22, 23, 24, 25, 26, 27, 28, 29, 30, 31, 32, 33, 34, 35, 36, 37, 38, 39, 40, 41, 42, 43, 44, 45, 46, 47] [] rfl (Or.inl ⟨by rfl, Or.inl ?hy123⟩) ?r_123
        case hy123=>(intro w' kk ss; obtain⟨x0,x1,y1⟩:=HC.out _ (hr0.trans kk); go_simp; first | done | with_reducible rfl)
        try simp only[Act.put,Reg.l1,Reg.l2,Reg.l3]
        refine' Reg.tk3 (i := 16) (v := _) (some 26) [17, 18, 19, 20, 21, 22, 23, 24, 25, 26, 27, 28, 29, 30, 31, 32, 33, 34, 35, 36, 37, 38, 39, 40, 41, 42, 43, 44, 45, 46, 47] [] rfl (Or.inl ⟨by rfl, Or.inl ?hy124⟩) ?r_124
        case hy124=>(intro w' kk ss; obtain⟨x0,x1,y1⟩:=HC.out _ (hr0.trans kk); go_simp; first | done | with_reducible rfl)
        try simp only[Act.put,Reg.l1,Reg.l2,Reg.l3]
        refine Reg.tk3 (i := 17) (v := .bool true) (some 27) [18, 19, 20, 21, 22, 23, 24, 25, 26, 27, 28, 29, 30, 31, 32, 33, 34, 35, 36, 37, 38, 39, 40, 41, 42, 43, 44, 45, 46, 47] [] rfl (Or.inl ⟨by rfl, Or.inr ⟨136, #[.int .i64 lo], fun w' kk ss => ⟨?_, ?_⟩⟩⟩) ?_
        · (try dsimp only at ss); go_simp
        · exact within_at8 HL.out w'
        try simp only[Act.put,Reg.l1,Reg.l2,Reg.l3]
        refine' Reg.tk3 (i := 18) (v := _) (some 28) [19, 20, 21, 22, 23, 24, 25, 26, 27, 28, 29, 30, 31, 32, 33, 34, 35, 36, 37, 38, 39, 40, 41, 42, 43, 44, 45, 46, 47] [] rfl (Or.inl ⟨by rfl, Or.inl ?hy125⟩) ?r_125
        case hy125=>(intro w' kk ss; obtain⟨x0,x1,y1⟩:=HC.out _ (hr0.trans kk); go_simp; first | done | with_reducible rfl)
        try simp only[Act.put,Reg.l1,Reg.l2,Reg.l3]
        refine' Reg.tk3 (i := 19) (v := _) (some 29) [20, 21, 22, 23, 24, 25, 26, 27, 28, 29, 30, 31, 32, 33, 34, 35, 36, 37, 38, 39, 40, 41, 42, 43, 44, 45, 46, 47] [] rfl (Or.inl ⟨by rfl, Or.inl ?hy126⟩) ?r_126
        case hy126=>(intro w' kk ss; obtain⟨x0,x1,y1⟩:=HC.out _ (hr0.trans kk); go_simp; first | done | with_reducible rfl)
        try simp only[Act.put,Reg.l1,Reg.l2,Reg.l3]
        refine' Reg.tk3 (i := 20) (v := _) (some 30) [21, 22, 23, 24, 25, 26, 27, 28, 29, 30, 31, 32, 33, 34, 35, 36, 37, 38, 39, 40, 41, 42, 43, 44, 45, 46, 47] [] rfl (Or.inl ⟨by rfl, Or.inl ?hy127⟩) ?r_127
        case hy127=>(intro w' kk ss; obtain⟨x0,x1,y1⟩:=HC.out _ (hr0.trans kk); go_simp; first | done | with_reducible rfl)
        try simp only[Act.put,Reg.l1,Reg.l2,Reg.l3]
        refine' Reg.tk3 (i := 21) (v := _) (some 31) [23, 24, 25, 26, 27, 28, 29, 30, 31, 32, 33, 34, 35, 36, 37, 38, 39, 40, 41, 42, 43, 44, 45, 46, 47] [] rfl (Or.inl ⟨by rfl, Or.inl ?hy128⟩) ?r_128
        case hy128=>(intro w' kk ss; obtain⟨x0,x1,y1⟩:=HC.out _ (hr0.trans kk); go_simp; first | done | with_reducible rfl)
        try simp only[Act.put,Reg.l1,Reg.l2,Reg.l3]
        refine' Reg.tk3 (i := 22) (v := _) (some 32) [23, 24, 25, 26, 27, 28, 29, 30, 31, 32, 33, 34, 35, 36, 37, 38, 39, 40, 41, 42, 43, 44, 45, 46, 47] [] rfl (Or.inl ⟨by rfl, Or.inl ?hy129⟩) ?r_129
        case hy129=>(intro w' kk ss; obtain⟨x0,x1,y1⟩:=HC.out _ (hr0.trans kk); go_simp; first | done | with_reducible rfl)
        try simp only[Act.put,Reg.l1,Reg.l2,Reg.l3]
        refine' Reg.tk3 (i := 23) (v := _) (some 33) [24, 25, 26, 27, 28, 29, 30, 31, 32, 33, 34, 35, 36, 37, 38, 39, 40, 41, 42, 43, 44, 45, 46, 47] [] rfl (Or.inl ⟨by rfl, Or.inl ?hy130⟩) ?r_130
        case hy130=>(intro w' kk ss; obtain⟨x0,x1,y1⟩:=HC.out _ (hr0.trans kk); go_simp; first | done | with_reducible rfl)
        try simp only[Act.put,Reg.l1,Reg.l2,Reg.l3]
        refine' Reg.tk3 (i := 24) (v := _) (some 34) [25, 26, 27, 28, 29, 30, 31, 32, 33, 34, 35, 36, 37, 38, 39, 40, 41, 42, 43, 44, 45, 46, 47] [] rfl (Or.inl ⟨by rfl, Or.inl ?hy131⟩) ?r_131
        case hy131=>(intro w' kk ss; obtain⟨x0,x1,y1⟩:=HC.out _ (hr0.trans kk); go_simp; first | done | with_reducible rfl)
        try simp only[Act.put,Reg.l1,Reg.l2,Reg.l3]
        refine' Reg.tk3 (i := 25) (v := _) (some 35) [26, 27, 28, 29, 30, 31, 32, 33, 34, 35, 36, 37, 38, 39, 40, 41, 42, 43, 44, 45, 46, 47] [] rfl (Or.inl ⟨by rfl, Or.inl ?hy132⟩) ?r_132
        case hy132=>(intro w' kk ss; obtain⟨x0,x1,y1⟩:=HC.out _ (hr0.trans kk); go_simp; first | done | with_reducible rfl)
        try simp only[Act.put,Reg.l1,Reg.l2,Reg.l3]
        refine Reg.tk3 (i := 26) (v := .bool true) (some 36) [27, 28, 29, 30, 31, 32, 33, 34, 35, 36, 37, 38, 39, 40, 41, 42, 43, 44, 45, 46, 47] [] rfl (Or.inl ⟨by rfl, Or.inr ⟨136, #[.int .i64 hi], fun w' kk ss => ⟨?_, ?_⟩⟩⟩) ?_
        · (try dsimp only at ss); go_simp
        · exact within_at8 HH.out w'
        try simp only[Act.put,Reg.l1,Reg.l2,Reg.l3]
        refine' Reg.tk3 (i := 27) (v := _) (some 37) [28, 29, 30, 31, 32, 33, 34, 35, 36, 37, 38, 39, 40, 41, 42, 43, 44, 45, 46, 47] [] rfl (Or.inl ⟨by rfl, Or.inl ?hy133⟩) ?r_133
        case hy133=>(intro w' kk ss; obtain⟨x0,x1,y1⟩:=HC.out _ (hr0.trans kk); go_simp; first | done | with_reducible rfl)
        try simp only[Act.put,Reg.l1,Reg.l2,Reg.l3]
        refine' Reg.tk3 (i := 28) (v := _) (some 38) [29, 30, 31, 32, 33, 34, 35, 36, 37, 38, 39, 40, 41, 42, 43, 44, 45, 46, 47] [] rfl (Or.inl ⟨by rfl, Or.inl ?hy134⟩) ?r_134
        case hy134=>(intro w' kk ss; obtain⟨x0,x1,y1⟩:=HC.out _ (hr0.trans kk); go_simp; first | done | with_reducible rfl)
        try simp only[Act.put,Reg.l1,Reg.l2,Reg.l3]
        refine' Reg.tk3 (i := 29) (v := _) (some 39) [30, 31, 32, 33, 34, 35, 36, 37, 38, 39, 40, 41, 42, 43, 44, 45, 46, 47] [] rfl (Or.inl ⟨by rfl, Or.inl ?hy135⟩) ?r_135
        case hy135=>(intro w' kk ss; obtain⟨x0,x1,y1⟩:=HC.out _ (hr0.trans kk); go_simp; first | done | with_reducible rfl)
        try simp only[Act.put,Reg.l1,Reg.l2,Reg.l3]
        refine' Reg.tk3 (i := 30) (v := _) (some 40) [31, 32, 33, 34, 35, 36, 37, 38, 39, 40, 41, 42, 43, 44, 45, 46, 47] [] rfl (Or.inl ⟨by rfl, Or.inl ?hy136⟩) ?r_136
        case hy136=>(intro w' kk ss; obtain⟨x0,x1,y1⟩:=HC.out _ (hr0.trans kk); go_simp; first | done | with_reducible rfl)
        try simp only[Act.put,Reg.l1,Reg.l2,Reg.l3]
        refine' Reg.tk3 (i := 31) (v := _) (some 41) [32, 33, 34, 35, 36, 37, 38, 39, 40, 41, 42, 43, 44, 45, 46, 47] [] rfl (Or.inl ⟨by rfl, Or.inl ?hy137⟩) ?r_137
        case hy137=>(intro w' kk ss; obtain⟨x0,x1,y1⟩:=HC.out _ (hr0.trans kk); go_simp; first | done | with_reducible rfl)
        try simp only[Act.put,Reg.l1,Reg.l2,Reg.l3]
        refine' Reg.tk3 (i := 32) (v := _) (some 42) [33, 34, 35, 36, 37, 38, 39, 40, 41, 42, 43, 44, 45, 46, 47] [] rfl (Or.inl ⟨by rfl, Or.inl ?hy138⟩) ?r_138
        case hy138=>(intro w' kk ss; obtain⟨x0,x1,y1⟩:=HC.out _ (hr0.trans kk); go_simp; first | done | with_reducible rfl)
        try simp only[Act.put,Reg.l1,Reg.l2,Reg.l3]
        refine' Reg.tk3 (i := 33) (v := _) (some 43) [35, 36, 37, 45, 46, 47] [] rfl (Or.inl ⟨by rfl, Or.inl ?hy139⟩) ?r_139
        case hy139=>(intro w' kk ss; obtain⟨x0,x1,y1⟩:=HC.out _ (hr0.trans kk); go_simp; first | done | with_reducible rfl)
        try simp only[Act.put,Reg.l1,Reg.l2,Reg.l3]
        refine' Reg.tk3 (i := 34) (v := _) (some 44) [35, 36, 37, 45, 46, 47] [] rfl (Or.inl ⟨by rfl, Or.inl ?hy140⟩) ?r_140
        case hy140=>(intro w' kk ss; obtain⟨x0,x1,y1⟩:=HC.out _ (hr0.trans kk); go_simp; first | done | with_reducible rfl)
        try simp only[Act.put,Reg.l1,Reg.l2,Reg.l3]
        refine' Reg.tk3 (i := 35) (v := _) (some 45) [36, 37, 45, 46, 47] [] rfl (Or.inl ⟨by rfl, Or.inl ?hy141⟩) ?r_141
        case hy141=>(intro w' kk ss; obtain⟨x0,x1,y1⟩:=HC.out _ (hr0.trans kk); go_simp; first | done | with_reducible rfl)
        try simp only[Act.put,Reg.l1,Reg.l2,Reg.l3]
        refine' Reg.tk3 (i := 36) (v := _) (some 46) [37, 45, 46, 47] [] rfl (Or.inl ⟨by rfl, Or.inl ?hy142⟩) ?r_142
        case hy142=>(intro w' kk ss; obtain⟨x0,x1,y1⟩:=HC.out _ (hr0.trans kk); go_simp; first | done | with_reducible rfl)
        try simp only[Act.put,Reg.l1,Reg.l2,Reg.l3]
        refine' Reg.tk3 (i := 37) (v := _) (some 47) [45, 46, 47] [] rfl (Or.inl ⟨by rfl, Or.inl ?hy143⟩) ?r_143
        case hy143=>(intro w' kk ss; obtain⟨x0,x1,y1⟩:=HC.out _ (hr0.trans kk); go_simp; first | done | with_reducible rfl)
        try simp only[Act.put,Reg.l1,Reg.l2,Reg.l3]
        refine' Reg.tk3 (i := 38) (v := _) (some 48) [41, 42, 43, 44, 45, 46, 47] [] rfl (Or.inl ⟨by rfl, Or.inl ?hy144⟩) ?r_144
        case hy144=>(intro w' kk ss; obtain⟨x0,x1,y1⟩:=HC.out _ (hr0.trans kk); go_simp; first | done | with_reducible rfl)
        try simp only[Act.put,Reg.l1,Reg.l2,Reg.l3]
        refine' Reg.tk3 (i := 39) (v := _) (some 49) [40, 41, 42, 43, 44, 45, 46, 47] [] rfl (Or.inl ⟨by rfl, Or.inl ?hy145⟩) ?r_145
        case hy145=>(intro w' kk ss; obtain⟨x0,x1,y1⟩:=HC.out _ (hr0.trans kk); go_simp; first | done | with_reducible rfl)
        try simp only[Act.put,Reg.l1,Reg.l2,Reg.l3]
        refine' Reg.tk3 (i := 40) (v := _) (some 50) [41, 42, 43, 44, 45, 46, 47] [] rfl (Or.inl ⟨by rfl, Or.inl ?hy146⟩) ?r_146
        case hy146=>(intro w' kk ss; obtain⟨x0,x1,y1⟩:=HC.out _ (hr0.trans kk); go_simp; first | done | with_reducible rfl)
        try simp only[Act.put,Reg.l1,Reg.l2,Reg.l3]
        refine' Reg.tk3 (i := 41) (v := _) (some 51) [42, 43, 44, 45, 46, 47] [] rfl (Or.inl ⟨by rfl, Or.inl ?hy147⟩) ?r_147
        case hy147=>(intro w' kk ss; obtain⟨x0,x1,y1⟩:=HC.out _ (hr0.trans kk); go_simp; first | done | with_reducible rfl)
        try simp only[Act.put,Reg.l1,Reg.l2,Reg.l3]
        refine' Reg.tk3 (i := 42) (v := _) (some 52) [43, 44, 45, 46, 47] [] rfl (Or.inl ⟨by rfl, Or.inl ?hy148⟩) ?r_148
        case hy148=>(intro w' kk ss; obtain⟨x0,x1,y1⟩:=HC.out _ (hr0.trans kk); go_simp; first | done | with_reducible rfl)
        try simp only[Act.put,Reg.l1,Reg.l2,Reg.l3]
        refine' Reg.tk3 (i := 43) (v := _) (some 53) [44, 45, 46, 47] [] rfl (Or.inl ⟨by rfl, Or.inl ?hy149⟩) ?r_149
        case hy149=>(intro w' kk ss; obtain⟨x0,x1,y1⟩:=HC.out _ (hr0.trans kk); go_simp; first | done | with_reducible rfl)
        try simp only[Act.put,Reg.l1,Reg.l2,Reg.l3]
        refine' Reg.tk3 (i := 44) (v := _) (some 54) [45, 46, 47] [] rfl (Or.inl ⟨by rfl, Or.inl ?hy150⟩) ?r_150
        case hy150=>(intro w' kk ss; obtain⟨x0,x1,y1⟩:=HC.out _ (hr0.trans kk); go_simp; first | done | with_reducible rfl)
        try simp only[Act.put,Reg.l1,Reg.l2,Reg.l3]
        refine' Reg.tk3 (i := 45) (v := _) (some 55) [46, 47] [] rfl (Or.inl ⟨by rfl, Or.inl ?hy151⟩) ?r_151
        case hy151=>(intro w' kk ss; obtain⟨x0,x1,y1⟩:=HC.out _ (hr0.trans kk); go_simp; first | done | with_reducible rfl)
        try simp only[Act.put,Reg.l1,Reg.l2,Reg.l3]
        refine' Reg.tk3 (i := 46) (v := _) (some 56) [47] [] rfl (Or.inl ⟨by rfl, Or.inl ?hy152⟩) ?r_152
        case hy152=>(intro w' kk ss; obtain⟨x0,x1,y1⟩:=HC.out _ (hr0.trans kk); go_simp; first | done | with_reducible rfl)
        try simp only[Act.put,Reg.l1,Reg.l2,Reg.l3]
        refine' Reg.tk3 (i := 47) (v := _) (some 57) [] [] rfl (Or.inl ⟨by rfl, Or.inl ?hy153⟩) ?r_153
        case hy153=>(intro w' kk ss; obtain⟨x0,x1,y1⟩:=HC.out _ (hr0.trans kk); go_simp; first | done | with_reducible rfl)
        try simp only[Act.put,Reg.l1,Reg.l2,Reg.l3]
        refine Reg.wpG_done (by kernel_rfl) (fun we ke se => ?_) _
        refine NoPanic.normal ?_
        have hr0:=hr0.trans ke
        clear ke
        go_wp2
        go_ret
        exact .of HE.out (HW.out.trans hr0)
      have z4:decide (lo<p1+2)=false:=by rw[decide_eq_false_iff_not]; exact c4
      · have HE:=Lib.hid ((okF_yes (by simp only; omega) c1 (by simp only[mx]; omega)).symm.trans ST.out)
        go_wp2
        have hr0:Since wr wr.drew:=Since.drew (Since.refl wr)
        refine wp_region_noPanic ?_
        refine Reg.wp_region_G (S:=fun _=>True) (fun j => [].contains j) (by kernel_rfl) trivial ?_
        refine' Reg.tk3 (i := 0) (v := _) (some 10) [2, 3, 4, 10, 11, 12, 13, 14, 15, 16, 17, 18, 19, 20, 21, 22, 23, 24, 25, 26, 27, 28, 29, 30, 31, 32, 33, 34, 35, 36, 37, 38, 39, 40, 41, 42, 43, 44, 45, 46, 47] [] rfl (Or.inl ⟨by rfl, Or.inl ?hy155⟩) ?r_155
        case hy155=>(intro w' kk ss; obtain⟨x0,x1,y1⟩:=HC.out _ (hr0.trans kk); go_simp; first | done | with_reducible rfl)
        try simp only[Act.put,Reg.l1,Reg.l2,Reg.l3]
        refine' Reg.tk3 (i := 1) (v := _) (some 11) [2, 3, 4, 10, 11, 12, 13, 14, 15, 16, 17, 18, 19, 20, 21, 22, 23, 24, 25, 26, 27, 28, 29, 30, 31, 32, 33, 34, 35, 36, 37, 38, 39, 40, 41, 42, 43, 44, 45, 46, 47] [] rfl (Or.inl ⟨by rfl, Or.inl ?hy156⟩) ?r_156
        case hy156=>(intro w' kk ss; obtain⟨x0,x1,y1⟩:=HC.out _ (hr0.trans kk); go_simp; first | done | with_reducible rfl)
        try simp only[Act.put,Reg.l1,Reg.l2,Reg.l3]
        refine' Reg.tk3 (i := 2) (v := _) (some 12) [3, 4, 10, 11, 12, 13, 14, 15, 16, 17, 18, 19, 20, 21, 22, 23, 24, 25, 26, 27, 28, 29, 30, 31, 32, 33, 34, 35, 36, 37, 38, 39, 40, 41, 42, 43, 44, 45, 46, 47] [] rfl (Or.inl ⟨by rfl, Or.inl ?hy157⟩) ?r_157
        case hy157=>(intro w' kk ss; obtain⟨x0,x1,y1⟩:=HC.out _ (hr0.trans kk); go_simp; first | done | with_reducible rfl)
        try simp only[Act.put,Reg.l1,Reg.l2,Reg.l3]
        refine' Reg.tk3 (i := 3) (v := _) (some 13) [4, 10, 11, 12, 13, 14, 15, 16, 17, 18, 19, 20, 21, 22, 23, 24, 25, 26, 27, 28, 29, 30, 31, 32, 33, 34, 35, 36, 37, 38, 39, 40, 41, 42, 43, 44, 45, 46, 47] [] rfl (Or.inl ⟨by rfl, Or.inl ?hy158⟩) ?r_158
        case hy158=>(intro w' kk ss; obtain⟨x0,x1,y1⟩:=HC.out _ (hr0.trans kk); go_simp; first | done | with_reducible rfl)
        try simp only[Act.put,Reg.l1,Reg.l2,Reg.l3]
        refine' Reg.tk3 (i := 4) (v := _) (some 14) [10, 11, 12, 13, 14, 15, 16, 17, 18, 19, 20, 21, 22, 23, 24, 25, 26, 27, 28, 29, 30, 31, 32, 33, 34, 35, 36, 37, 38, 39, 40, 41, 42, 43, 44, 45, 46, 47] [] rfl (Or.inl ⟨by rfl, Or.inl ?hy159⟩) ?r_159
        case hy159=>(intro w' kk ss; obtain⟨x0,x1,y1⟩:=HC.out _ (hr0.trans kk); go_simp; first | done | with_reducible rfl)
        try simp only[Act.put,Reg.l1,Reg.l2,Reg.l3]
        refine' Reg.tk3 (i := 5) (v := _) (some 15) [7, 8, 9, 10, 11, 12, 13, 14, 15, 16, 17, 18, 19, 20, 21, 22, 23, 24, 25, 26, 27, 28, 29, 30, 31, 32, 33, 34, 35, 36, 37, 38, 39, 40, 41, 42, 43, 44, 45, 46, 47] [] rfl (Or.inl ⟨by rfl, Or.inl ?hy160⟩) ?r_160
        case hy160=>(intro w' kk ss; obtain⟨x0,x1,y1⟩:=HC.out _ (hr0.trans kk); go_simp; first | done | with_reducible rfl)
        try simp only[Act.put,Reg.l1,Reg.l2,Reg.l3]
        refine' Reg.tk3 (i := 6) (v := _) (some 16) [7, 8, 9, 10, 11, 12, 13, 14, 15, 16, 17, 18, 19, 20, 21, 22, 23, 24, 25, 26, 27, 28, 29, 30, 31, 32, 33, 34, 35, 36, 37, 38, 39, 40, 41, 42, 43, 44, 45, 46, 47] [] rfl (Or.inl ⟨by rfl, Or.inl ?hy161⟩) ?r_161
        case hy161=>(intro w' kk ss; obtain⟨x0,x1,y1⟩:=HC.out _ (hr0.trans kk); go_simp; first | done | with_reducible rfl)
        try simp only[Act.put,Reg.l1,Reg.l2,Reg.l3]
        refine' Reg.tk3 (i := 7) (v := _) (some 17) [8, 9, 10, 11, 12, 13, 14, 15, 16, 17, 18, 19, 20, 21, 22, 23, 24, 25, 26, 27, 28, 29, 30, 31, 32, 33, 34, 35, 36, 37, 38, 39, 40, 41, 42, 43, 44, 45, 46, 47] [] rfl (Or.inl ⟨by rfl, Or.inl ?hy162⟩) ?r_162
        case hy162=>(intro w' kk ss; obtain⟨x0,x1,y1⟩:=HC.out _ (hr0.trans kk); go_simp; first | done | with_reducible rfl)
        try simp only[Act.put,Reg.l1,Reg.l2,Reg.l3]
        refine' Reg.tk3 (i := 8) (v := _) (some 18) [9, 10, 11, 12, 13, 14, 15, 16, 17, 18, 19, 20, 21, 22, 23, 24, 25, 26, 27, 28, 29, 30, 31, 32, 33, 34, 35, 36, 37, 38, 39, 40, 41, 42, 43, 44, 45, 46, 47] [] rfl (Or.inl ⟨by rfl, Or.inl ?hy163⟩) ?r_163
        case hy163=>(intro w' kk ss; obtain⟨x0,x1,y1⟩:=HC.out _ (hr0.trans kk); go_simp; first | done | with_reducible rfl)
        try simp only[Act.put,Reg.l1,Reg.l2,Reg.l3]
        refine' Reg.tk3 (i := 9) (v := _) (some 19) [10, 11, 12, 13, 14, 15, 16, 17, 18, 19, 20, 21, 22, 23, 24, 25, 26, 27, 28, 29, 30, 31, 32, 33, 34, 35, 36, 37, 38, 39, 40, 41, 42, 43, 44, 45, 46, 47] [] rfl (Or.inl ⟨by rfl, Or.inl ?hy164⟩) ?r_164
        case hy164=>(intro w' kk ss; obtain⟨x0,x1,y1⟩:=HC.out _ (hr0.trans kk); go_simp; first | done | with_reducible rfl)
        try simp only[Act.put,Reg.l1,Reg.l2,Reg.l3]
        refine' Reg.tk3 (i := 10) (v := _) (some 20) [11, 12, 13, 14, 15, 16, 17, 18, 19, 20, 21, 22, 23, 24, 25, 26, 27, 28, 29, 30, 31, 32, 33, 34, 35, 36, 37, 38, 39, 40, 41, 42, 43, 44, 45, 46, 47] [] rfl (Or.inl ⟨by rfl, Or.inl ?hy165⟩) ?r_165
        case hy165=>(intro w' kk ss; obtain⟨x0,x1,y1⟩:=HC.out _ (hr0.trans kk); go_simp; first | done | with_reducible rfl)
        try simp only[Act.put,Reg.l1,Reg.l2,Reg.l3]
        refine' Reg.tk3 (i := 11) (v := _) (some 21) [12, 13, 14, 15, 16, 17, 18, 19, 20, 21, 22, 23, 24, 25, 26, 27, 28, 29, 30, 31, 32, 33, 34, 35, 36, 37, 38, 39, 40, 41, 42, 43, 44, 45, 46, 47] [] rfl (Or.inl ⟨by rfl, Or.inl ?hy166⟩) ?r_166
        case hy166=>(intro w' kk ss; obtain⟨x0,x1,y1⟩:=HC.out _ (hr0.trans kk); go_simp; first | done | with_reducible rfl)
        try simp only[Act.put,Reg.l1,Reg.l2,Reg.l3]
        refine' Reg.tk3 (i := 12) (v := _) (some 22) [14, 15, 16, 17, 18, 19, 20, 21, 22, 23, 24, 25, 26, 27, 28, 29, 30, 31, 32, 33, 34, 35, 36, 37, 38, 39, 40, 41, 42, 43, 44, 45, 46, 47] [] rfl (Or.inl ⟨by rfl, Or.inl ?hy167⟩) ?r_167
        case hy167=>(intro w' kk ss; obtain⟨x0,x1,y1⟩:=HC.out _ (hr0.trans kk); go_simp; first | done | with_reducible rfl)
        try simp only[Act.put,Reg.l1,Reg.l2,Reg.l3]
        refine' Reg.tk3 (i := 13) (v := _) (some 23) [14, 15, 16, 17, 18, 19, 20, 21, 22, 23, 24, 25, 26, 27, 28, 29, 30, 31, 32, 33, 34, 35, 36, 37, 38, 39, 40, 41, 42, 43, 44, 45, 46, 47] [] rfl (Or.inl ⟨by rfl, Or.inl ?hy168⟩) ?r_168
        case hy168=>(intro w' kk ss; obtain⟨x0,x1,y1⟩:=HC.out _ (hr0.trans kk); go_simp; first | done | with_reducible rfl)
        try simp only[Act.put,Reg.l1,Reg.l2,Reg.l3]
        refine' Reg.tk3 (i := 14) (v := _) (some 24) [15, 16, 17, 18, 19, 20, 21, 22, 23, 24, 25, 26, 27, 28, 29, 30, 31, 32, 33, 34, 35, 36, 37, 38, 39, 40, 41, 42, 43, 44, 45, 46, 47] [] rfl (Or.inl ⟨by rfl, Or.inl ?hy169⟩) ?r_169
        case hy169=>(intro w' kk ss; obtain⟨x0,x1,y1⟩:=HC.out _ (hr0.trans kk); go_simp; first | done | with_reducible rfl)
        try simp only[Act.put,Reg.l1,Reg.l2,Reg.l3]
        refine' Reg.tk3 (i := 15) (v := _) (some 25) [16, 17, 18, 19, 20, 21, 22, 23, 24, 25, 26, 27, 28, 29, 30, 31, 32, 33, 34, 35, 36, 37, 38, 39, 40, 41, 42, 43, 44, 45, 46, 47] [] rfl (Or.inl ⟨by rfl, Or.inl ?hy170⟩) ?r_170
        case hy170=>(intro w' kk ss; obtain⟨x0,x1,y1⟩:=HC.out _ (hr0.trans kk); go_simp; first | done | with_reducible rfl)
        try simp only[Act.put,Reg.l1,Reg.l2,Reg.l3]
        refine' Reg.tk3 (i := 16) (v := _) (some 26) [17, 18, 19, 20, 21, 22, 23, 24, 25, 26, 27, 28, 29, 30, 31, 32, 33, 34, 35, 36, 37, 38, 39, 40, 41, 42, 43, 44, 45, 46, 47] [] rfl (Or.inl ⟨by rfl, Or.inl ?hy171⟩) ?r_171
        case hy171=>(intro w' kk ss; obtain⟨x0,x1,y1⟩:=HC.out _ (hr0.trans kk); go_simp; first | done | with_reducible rfl)
        try simp only[Act.put,Reg.l1,Reg.l2,Reg.l3]
        refine Reg.tk3 (i := 17) (v := .bool true) (some 27) [18, 19, 20, 21, 22, 23, 24, 25, 26, 27, 28, 29, 30, 31, 32, 33, 34, 35, 36, 37, 38, 39, 40, 41, 42, 43, 44, 45, 46, 47] [] rfl (Or.inl ⟨by rfl, Or.inr ⟨136, #[.int .i64 lo], fun w' kk ss => ⟨?_, ?_⟩⟩⟩) ?_
        · (try dsimp only at ss); go_simp
        · exact within_at8 HL.out w'
        try simp only[Act.put,Reg.l1,Reg.l2,Reg.l3]
        refine' Reg.tk3 (i := 18) (v := _) (some 28) [19, 20, 21, 22, 23, 24, 25, 26, 27, 28, 29, 30, 31, 32, 33, 34, 35, 36, 37, 38, 39, 40, 41, 42, 43, 44, 45, 46, 47] [] rfl (Or.inl ⟨by rfl, Or.inl ?hy172⟩) ?r_172
        case hy172=>(intro w' kk ss; obtain⟨x0,x1,y1⟩:=HC.out _ (hr0.trans kk); go_simp; first | done | with_reducible rfl)
        try simp only[Act.put,Reg.l1,Reg.l2,Reg.l3]
        refine' Reg.tk3 (i := 19) (v := _) (some 29) [20, 21, 22, 23, 24, 25, 26, 27, 28, 29, 30, 31, 32, 33, 34, 35, 36, 37, 38, 39, 40, 41, 42, 43, 44, 45, 46, 47] [] rfl (Or.inl ⟨by rfl, Or.inl ?hy173⟩) ?r_173
        case hy173=>(intro w' kk ss; obtain⟨x0,x1,y1⟩:=HC.out _ (hr0.trans kk); go_simp; first | done | with_reducible rfl)
        try simp only[Act.put,Reg.l1,Reg.l2,Reg.l3]
        refine' Reg.tk3 (i := 20) (v := _) (some 30) [21, 22, 23, 24, 25, 26, 27, 28, 29, 30, 31, 32, 33, 34, 35, 36, 37, 38, 39, 40, 41, 42, 43, 44, 45, 46, 47] [] rfl (Or.inl ⟨by rfl, Or.inl ?hy174⟩) ?r_174
        case hy174=>(intro w' kk ss; obtain⟨x0,x1,y1⟩:=HC.out _ (hr0.trans kk); go_simp; first | done | with_reducible rfl)
        try simp only[Act.put,Reg.l1,Reg.l2,Reg.l3]
        refine' Reg.tk3 (i := 21) (v := _) (some 31) [23, 24, 25, 26, 27, 28, 29, 30, 31, 32, 33, 34, 35, 36, 37, 38, 39, 40, 41, 42, 43, 44, 45, 46, 47] [] rfl (Or.inl ⟨by rfl, Or.inl ?hy175⟩) ?r_175
        case hy175=>(intro w' kk ss; obtain⟨x0,x1,y1⟩:=HC.out _ (hr0.trans kk); go_simp; first | done | with_reducible rfl)
        try simp only[Act.put,Reg.l1,Reg.l2,Reg.l3]
        refine' Reg.tk3 (i := 22) (v := _) (some 32) [23, 24, 25, 26, 27, 28, 29, 30, 31, 32, 33, 34, 35, 36, 37, 38, 39, 40, 41, 42, 43, 44, 45, 46, 47] [] rfl (Or.inl ⟨by rfl, Or.inl ?hy176⟩) ?r_176
        case hy176=>(intro w' kk ss; obtain⟨x0,x1,y1⟩:=HC.out _ (hr0.trans kk); go_simp; first | done | with_reducible rfl)
        try simp only[Act.put,Reg.l1,Reg.l2,Reg.l3]
        refine' Reg.tk3 (i := 23) (v := _) (some 33) [24, 25, 26, 27, 28, 29, 30, 31, 32, 33, 34, 35, 36, 37, 38, 39, 40, 41, 42, 43, 44, 45, 46, 47] [] rfl (Or.inl ⟨by rfl, Or.inl ?hy177⟩) ?r_177
        case hy177=>(intro w' kk ss; obtain⟨x0,x1,y1⟩:=HC.out _ (hr0.trans kk); go_simp; first | done | with_reducible rfl)
        try simp only[Act.put,Reg.l1,Reg.l2,Reg.l3]
        refine' Reg.tk3 (i := 24) (v := _) (some 34) [25, 26, 27, 28, 29, 30, 31, 32, 33, 34, 35, 36, 37, 38, 39, 40, 41, 42, 43, 44, 45, 46, 47] [] rfl (Or.inl ⟨by rfl, Or.inl ?hy178⟩) ?r_178
        case hy178=>(intro w' kk ss; obtain⟨x0,x1,y1⟩:=HC.out _ (hr0.trans kk); go_simp; first | done | with_reducible rfl)
        try simp only[Act.put,Reg.l1,Reg.l2,Reg.l3]
        refine' Reg.tk3 (i := 25) (v := _) (some 35) [26, 27, 28, 29, 30, 31, 32, 33, 34, 35, 36, 37, 38, 39, 40, 41, 42, 43, 44, 45, 46, 47] [] rfl (Or.inl ⟨by rfl, Or.inl ?hy179⟩) ?r_179
        case hy179=>(intro w' kk ss; obtain⟨x0,x1,y1⟩:=HC.out _ (hr0.trans kk); go_simp; first | done | with_reducible rfl)
        try simp only[Act.put,Reg.l1,Reg.l2,Reg.l3]
        refine Reg.tk3 (i := 26) (v := .bool true) (some 36) [27, 28, 29, 30, 31, 32, 33, 34, 35, 36, 37, 38, 39, 40, 41, 42, 43, 44, 45, 46, 47] [] rfl (Or.inl ⟨by rfl, Or.inr ⟨136, #[.int .i64 hi], fun w' kk ss => ⟨?_, ?_⟩⟩⟩) ?_
        · (try dsimp only at ss); go_simp
        · exact within_at8 HH.out w'
        try simp only[Act.put,Reg.l1,Reg.l2,Reg.l3]
        refine' Reg.tk3 (i := 27) (v := _) (some 37) [28, 29, 30, 31, 32, 33, 34, 35, 36, 37, 38, 39, 40, 41, 42, 43, 44, 45, 46, 47] [] rfl (Or.inl ⟨by rfl, Or.inl ?hy180⟩) ?r_180
        case hy180=>(intro w' kk ss; obtain⟨x0,x1,y1⟩:=HC.out _ (hr0.trans kk); go_simp; first | done | with_reducible rfl)
        try simp only[Act.put,Reg.l1,Reg.l2,Reg.l3]
        refine' Reg.tk3 (i := 28) (v := _) (some 38) [29, 30, 31, 32, 33, 34, 35, 36, 37, 38, 39, 40, 41, 42, 43, 44, 45, 46, 47] [] rfl (Or.inl ⟨by rfl, Or.inl ?hy181⟩) ?r_181
        case hy181=>(intro w' kk ss; obtain⟨x0,x1,y1⟩:=HC.out _ (hr0.trans kk); go_simp; first | done | with_reducible rfl)
        try simp only[Act.put,Reg.l1,Reg.l2,Reg.l3]
        refine' Reg.tk3 (i := 29) (v := _) (some 39) [30, 31, 32, 33, 34, 35, 36, 37, 38, 39, 40, 41, 42, 43, 44, 45, 46, 47] [] rfl (Or.inl ⟨by rfl, Or.inl ?hy182⟩) ?r_182
        case hy182=>(intro w' kk ss; obtain⟨x0,x1,y1⟩:=HC.out _ (hr0.trans kk); go_simp; first | done | with_reducible rfl)
        try simp only[Act.put,Reg.l1,Reg.l2,Reg.l3]
        refine' Reg.tk3 (i := 30) (v := _) (some 40) [31, 32, 33, 34, 35, 36, 37, 38, 39, 40, 41, 42, 43, 44, 45, 46, 47] [] rfl (Or.inl ⟨by rfl, Or.inl ?hy183⟩) ?r_183
        case hy183=>(intro w' kk ss; obtain⟨x0,x1,y1⟩:=HC.out _ (hr0.trans kk); go_simp; first | done | with_reducible rfl)
        try simp only[Act.put,Reg.l1,Reg.l2,Reg.l3]
        refine' Reg.tk3 (i := 31) (v := _) (some 41) [32, 33, 34, 35, 36, 37, 38, 39, 40, 41, 42, 43, 44, 45, 46, 47] [] rfl (Or.inl ⟨by rfl, Or.inl ?hy184⟩) ?r_184
        case hy184=>(intro w' kk ss; obtain⟨x0,x1,y1⟩:=HC.out _ (hr0.trans kk); go_simp; first | done | with_reducible rfl)
        try simp only[Act.put,Reg.l1,Reg.l2,Reg.l3]
        refine' Reg.tk3 (i := 32) (v := _) (some 42) [33, 34, 35, 36, 37, 38, 39, 40, 41, 42, 43, 44, 45, 46, 47] [] rfl (Or.inl ⟨by rfl, Or.inl ?hy185⟩) ?r_185
        case hy185=>(intro w' kk ss; obtain⟨x0,x1,y1⟩:=HC.out _ (hr0.trans kk); go_simp; first | done | with_reducible rfl)
        try simp only[Act.put,Reg.l1,Reg.l2,Reg.l3]
        refine' Reg.tk3 (i := 33) (v := _) (some 43) [35, 36, 37, 45, 46, 47] [] rfl (Or.inl ⟨by rfl, Or.inl ?hy186⟩) ?r_186
        case hy186=>(intro w' kk ss; obtain⟨x0,x1,y1⟩:=HC.out _ (hr0.trans kk); go_simp; first | done | with_reducible rfl)
        try simp only[Act.put,Reg.l1,Reg.l2,Reg.l3]
        refine' Reg.tk3 (i := 34) (v := _) (some 44) [35, 36, 37, 45, 46, 47] [] rfl (Or.inl ⟨by rfl, Or.inl ?hy187⟩) ?r_187
        case hy187=>(intro w' kk ss; obtain⟨x0,x1,y1⟩:=HC.out _ (hr0.trans kk); go_simp; first | done | with_reducible rfl)
        try simp only[Act.put,Reg.l1,Reg.l2,Reg.l3]
        refine' Reg.tk3 (i := 35) (v := _) (some 45) [36, 37, 45, 46, 47] [] rfl (Or.inl ⟨by rfl, Or.inl ?hy188⟩) ?r_188
        case hy188=>(intro w' kk ss; obtain⟨x0,x1,y1⟩:=HC.out _ (hr0.trans kk); go_simp; first | done | with_reducible rfl)
        try simp only[Act.put,Reg.l1,Reg.l2,Reg.l3]
        refine' Reg.tk3 (i := 36) (v := _) (some 46) [37, 45, 46, 47] [] rfl (Or.inl ⟨by rfl, Or.inl ?hy189⟩) ?r_189
        case hy189=>(intro w' kk ss; obtain⟨x0,x1,y1⟩:=HC.out _ (hr0.trans kk); go_simp; first | done | with_reducible rfl)
        try simp only[Act.put,Reg.l1,Reg.l2,Reg.l3]
        refine' Reg.tk3 (i := 37) (v := _) (some 47) [45, 46, 47] [] rfl (Or.inl ⟨by rfl, Or.inl ?hy190⟩) ?r_190
        case hy190=>(intro w' kk ss; obtain⟨x0,x1,y1⟩:=HC.out _ (hr0.trans kk); go_simp; first | done | with_reducible rfl)
        try simp only[Act.put,Reg.l1,Reg.l2,Reg.l3]
        refine' Reg.tk3 (i := 38) (v := _) (some 48) [41, 42, 43, 44, 45, 46, 47] [] rfl (Or.inl ⟨by rfl, Or.inl ?hy191⟩) ?r_191
        case hy191=>(intro w' kk ss; obtain⟨x0,x1,y1⟩:=HC.out _ (hr0.trans kk); go_simp; first | done | with_reducible rfl)
        try simp only[Act.put,Reg.l1,Reg.l2,Reg.l3]
        refine' Reg.tk3 (i := 39) (v := _) (some 49) [40, 41, 42, 43, 44, 45, 46, 47] [] rfl (Or.inl ⟨by rfl, Or.inl ?hy192⟩) ?r_192
        case hy192=>(intro w' kk ss; obtain⟨x0,x1,y1⟩:=HC.out _ (hr0.trans kk); go_simp; first | done | with_reducible rfl)
        try simp only[Act.put,Reg.l1,Reg.l2,Reg.l3]
        refine' Reg.tk3 (i := 40) (v := _) (some 50) [41, 42, 43, 44, 45, 46, 47] [] rfl (Or.inl ⟨by rfl, Or.inl ?hy193⟩) ?r_193
        case hy193=>(intro w' kk ss; obtain⟨x0,x1,y1⟩:=HC.out _ (hr0.trans kk); go_simp; first | done | with_reducible rfl)
        try simp only[Act.put,Reg.l1,Reg.l2,Reg.l3]
        refine' Reg.tk3 (i := 41) (v := _) (some 51) [42, 43, 44, 45, 46, 47] [] rfl (Or.inl ⟨by rfl, Or.inl ?hy194⟩) ?r_194
        case hy194=>(intro w' kk ss; obtain⟨x0,x1,y1⟩:=HC.out _ (hr0.trans kk); go_simp; first | done | with_reducible rfl)
        try simp only[Act.put,Reg.l1,Reg.l2,Reg.l3]
        refine' Reg.tk3 (i := 42) (v := _) (some 52) [43, 44, 45, 46, 47] [] rfl (Or.inl ⟨by rfl, Or.inl ?hy195⟩) ?r_195
        case hy195=>(intro w' kk ss; obtain⟨x0,x1,y1⟩:=HC.out _ (hr0.trans kk); go_simp; first | done | with_reducible rfl)
        try simp only[Act.put,Reg.l1,Reg.l2,Reg.l3]
        refine' Reg.tk3 (i := 43) (v := _) (some 53) [44, 45, 46, 47] [] rfl (Or.inl ⟨by rfl, Or.inl ?hy196⟩) ?r_196
        case hy196=>(intro w' kk ss; obtain⟨x0,x1,y1⟩:=HC.out _ (hr0.trans kk); go_simp; first | done | with_reducible rfl)
        try simp only[Act.put,Reg.l1,Reg.l2,Reg.l3]
        refine' Reg.tk3 (i := 44) (v := _) (some 54) [45, 46, 47] [] rfl (Or.inl ⟨by rfl, Or.inl ?hy197⟩) ?r_197
        case hy197=>(intro w' kk ss; obtain⟨x0,x1,y1⟩:=HC.out _ (hr0.trans kk); go_simp; first | done | with_reducible rfl)
        try simp only[Act.put,Reg.l1,Reg.l2,Reg.l3]
        refine' Reg.tk3 (i := 45) (v := _) (some 55) [46, 47] [] rfl (Or.inl ⟨by rfl, Or.inl ?hy198⟩) ?r_198
        case hy198=>(intro w' kk ss; obtain⟨x0,x1,y1⟩:=HC.out _ (hr0.trans kk); go_simp; first | done | with_reducible rfl)
        try simp only[Act.put,Reg.l1,Reg.l2,Reg.l3]
        refine' Reg.tk3 (i := 46) (v := _) (some 56) [47] [] rfl (Or.inl ⟨by rfl, Or.inl ?hy199⟩) ?r_199
        case hy199=>(intro w' kk ss; obtain⟨x0,x1,y1⟩:=HC.out _ (hr0.trans kk); go_simp; first | done | with_reducible rfl)
        try simp only[Act.put,Reg.l1,Reg.l2,Reg.l3]
        refine' Reg.tk3 (i := 47) (v := _) (some 57) [] [] rfl (Or.inl ⟨by rfl, Or.inl ?hy200⟩) ?r_200
        case hy200=>(intro w' kk ss; obtain⟨x0,x1,y1⟩:=HC.out _ (hr0.trans kk); go_simp; first | done | with_reducible rfl)
        try simp only[Act.put,Reg.l1,Reg.l2,Reg.l3]
        refine Reg.wpG_done (by kernel_rfl) (fun we ke se => ?_) _
        refine NoPanic.normal ?_
        have hr0:=hr0.trans ke
        clear ke
        go_wp2
        go_roundw
        case rel=>exact⟨k+1,hi+2,by go_num,by omega,.inr ⟨k,(lo,hi),rfl,HK.out,rfl,ch.1,ch.2⟩,HE.out,HW.out.trans hr0⟩
        case measure=>simp[intOf]; omega
  · obtain rfl:k=n:=by omega
    have HE2:=Lib.hid (show true=R by rw[← HE.out,List.drop_of_length_le (by have:=HN.out; omega)]; rfl)
    go_wp2
    go_ret
    exact .of (by rw[← HE2.out,decide_eq_true_iff]; omega) HW.out
theorem rdom_at {v:Value} {l:List Rn} {w:World} (h:Sl 2 QR w v l) (hl:l.length≤1100000) (hb:Bd l) {R:Bool} (hR:domOk l=R) (W:World) (k:Since w W) :
 Calls Try.prog 140 #[v] W (RetT R W):=by subst hR; exact rdom_any v l W (h.since stR k) hl hb
section
open Go.RowKit
set_option linter.unusedVariables false
set_option linter.unusedSimpArgs false
open Dig Lx Tk Ti Zs Tr
set_option maxRecDepth 20000 in
set_option maxHeartbeats 2000000 in
theorem rcon_at {v vc:Value} {m:Md} {c:Cn} {w:World} (h:ModAt w v m) (hc:ConAt w vc c) (hok:∀ d ∈ m.ds,d.length≤1100000) (hx:c.x.length≤1100000) (ha:c.a.length≤1100000) (hdl:m.ds.length≤1100000) {b:Bool} (hb:conOk m.ds c=b) (W:World) (k:Since w W) :
 Calls Try.prog 141 #[v,vc] W (fun e w'=>e = .returned (.bool b)∧Since W w'∧True):=by
 subst hb
 exact (rcon_any v vc m c W (h.since k) (hc.since k) hok hx ha hdl).mono fun e w' h=>⟨h.1,h.2,trivial⟩
set_option maxRecDepth 20000 in
set_option maxHeartbeats 2000000 in
theorem rmright_any (v:Value) (m:Md) (w:World) (h:ModAt w v m) (hs:SzM m) (hbd:∀ d ∈ m.ds,Bd d):Calls Try.prog 79 #[v] w (RetT (modOk m) w):=by
 have CA:=Lib.hid (fun vc c W (kk:Since w W) (hc:ConAt W vc c) hx ha hdl b hb=>rcon_at (h.since kk) hc hs.1 hx ha hdl (b:=b) hb)
 obtain⟨vd,vc,rfl,h1,h2⟩:=h
 obtain⟨ds,cs,ask,goal⟩:=m
 simp only at h1 h2 hbd CA ⊢
 obtain⟨hs1,hs2⟩:=hs
 simp only at hs1 hs2
 obtain⟨D,dc,rfl⟩:=h1.form
 obtain⟨C,cc,rfl⟩:=h2.form
 obtain⟨nd,hnd⟩:∃ n,n=ds.length:=⟨_,rfl⟩
 obtain⟨nc,hnc⟩:∃ n,n=cs.length:=⟨_,rfl⟩
 obtain⟨Q,hQ⟩:∃ Q,Q=reqOk ⟨ds,cs,ask,goal⟩:=⟨_,rfl⟩
 obtain⟨R,hR⟩:∃ R,R=modOk ⟨ds,cs,ask,goal⟩:=⟨_,rfl⟩
 have HR:=Lib.hid (show (decide (nd≤64) && decide (nc≤64) && ds.all domOk && cs.all (conOk ds) && Q)=R by rw[hR,hnd,hnc,hQ]; rfl)
 have HQ:=Lib.hid (show Q=if ask=0 then decide (goal=0) else if ask=1∨ask=2 then isV nd goal else false by rw[hQ,hnd]; rfl)
 rw[← hR]
 clear hR hQ
 rw[← hnd,← hnc] at CA ⊢
 rw[← hnd] at h1
 rw[← hnc] at h2
 have H1:=Lib.hid h1
 have H2:=Lib.hid h2
 have HND:=Lib.hid hnd
 have HNC:=Lib.hid hnc
 have HS1:=Lib.hid hs1
 have HS2:=Lib.hid hs2
 have HBD:=Lib.hid hbd
 have ka:=Lib.hid (since_alloc w (.cells #[.slice D nd dc,.slice C nc cc,.int .i64 ask,.int .i64 goal] 79))
 have BX:=Lib.hid (fun W (kk:Since (w.alloc (.cells #[.slice D nd dc,.slice C nc cc,.int .i64 ask,.int .i64 goal] 79)) W)=>(Bx.fresh w #[.slice D nd dc,.slice C nc cc,.int .i64 ask,.int .i64 goal] 79).since kk)
 clear h1 h2 hnd hnc hs1 hs2 hbd
 by_cases cd:nd≤64
 case neg =>
  have E:=Lib.hid (show false=R by rw[← HR.out,decide_eq_false cd]; rfl)
  go_enter Try.func79,Try.ntmps79
  go_wp2
  go_ret
  exact .of E.out ka.out
 by_cases cn:nc≤64
 case neg =>
  have E:=Lib.hid (show false=R by rw[← HR.out,decide_eq_false cn,Bool.and_false]; rfl)
  go_enter Try.func79,Try.ntmps79
  go_wp2
  go_ret
  exact .of E.out ka.out
 have HR2:=Lib.hid (show (ds.all domOk && (cs.all (conOk ds) && Q))=R by rw[← HR.out,decide_eq_true cd,decide_eq_true cn,Bool.and_assoc]; rfl)
 clear HR
 go_enter Try.func79,Try.ntmps79
 go_wp2
 go_loopw [3] (fun i wr=>∃ k:Nat,i = .int .i64 (k:Int)∧k≤nd∧Hid (((ds.drop k).all domOk && (cs.all (conOk ds) && Q))=R)∧Hid (Since (w.alloc (.cells #[.slice D nd dc,.slice C nc cc,.int .i64 ask,.int .i64 goal] 79)) wr)) (fun i _=>nd - (intOf i).toNat)
 case atStart=>exact⟨0,rfl,Nat.zero_le _,HR2.out,Since.refl _⟩
 case round =>
  obtain⟨k,rfl,hk,HE,HW⟩:=hrel
  obtain⟨_,_,_,_⟩:=bx4 (BX.out _ HW.out)
  by_cases hkn:k<nd
  · have hkl:k<ds.length:=by have:=HND.out; omega
    obtain⟨g,o,B2,d2,rfl,S2,e2⟩:=elD (H1.out.since stD (ka.out.trans HW.out)) hkl
    have hst:=HE.out
    rw[dropC hkl,List.all_cons] at hst
    have hsz:=HS1.out _ (List.getElem_mem hkl)
    have hbz:=HBD.out _ (List.getElem_mem hkl)
    generalize ds[k]=y at *
    have ST:=Lib.hid hst
    have DM:=Lib.hid (fun b (hb:domOk y=b)=>rdom_at S2 hsz hbz hb wr (Since.refl _))
    obtain⟨p,hp⟩:∃ p,p=y.length:=⟨_,rfl⟩
    rw[← hp] at e2 DM
    clear hst hkl HE S2 hsz hbz hp
    cases hy:domOk y with
    | true =>
     have HE:=Lib.hid (show ((ds.drop (k+1)).all domOk && (cs.all (conOk ds) && Q))=R by have:=ST.out; rw[hy,Bool.true_and] at this; exact this)
     have D7:=Lib.hid (DM.out true hy)
     clear hy ST DM
     go_wp2_with (go_at_call 140; (with_reducible refine D7.out.mono ?_); rintro e w7 ⟨rfl,k7⟩)
     go_roundw
     case rel=>exact⟨k+1,by go_num,by omega,HE.out,HW.out.trans k7⟩
     case measure=>simp[intOf]; omega
    | false =>
     have HE:=Lib.hid (show false=R by have:=ST.out; rw[hy,Bool.false_and,Bool.false_and] at this; exact this)
     have D7:=Lib.hid (DM.out false hy)
     clear hy ST DM
     go_wp2_with (go_at_call 140; (with_reducible refine D7.out.mono ?_); rintro e w7 ⟨rfl,k7⟩)
     go_ret
     exact .of HE.out (ka.out.trans (HW.out.trans k7))
  · obtain rfl:nd=k:=by omega
    have HB:=Lib.hid (show (cs.all (conOk ds) && Q)=R by rw[← HE.out,List.drop_of_length_le (by have:=HND.out; omega)]; rfl)
    clear HE
    rename World=>w5
    go_wp2
    go_loopw [4] (fun i wr=>∃ j:Nat,i = .int .i64 (j:Int)∧j≤nc∧Hid (((cs.drop j).all (conOk ds) && Q)=R)∧Hid (Since w5 wr)) (fun i _=>nc - (intOf i).toNat)
    case atStart=>exact⟨0,rfl,Nat.zero_le _,HB.out,Since.refl _⟩
    case round =>
     obtain⟨j,rfl,hj,HE,HV⟩:=hrel
     have t5:=Lib.hid (HW.out.trans HV.out)
     obtain⟨_,_,_,_⟩:=bx4 (BX.out _ t5.out)
     by_cases hjn:j<nc
     · have hjl:j<cs.length:=by have:=HNC.out; omega
       have S0:=ka.out.trans t5.out
       obtain⟨g,o,X,xc,Y,yc,rfl,S1,S2,e0,e1,e2,e3⟩:=elC (H2.out.since stC S0) hjl
       have hst:=HE.out
       rw[dropC hjl,List.all_cons] at hst
       have hsz:=HS2.out _ (List.getElem_mem hjl)
       generalize cs[j]=y at *
       obtain⟨yk,yx,ya,y_c⟩:=y
       simp only at S1 S2 e0 e1 e2 e3 hsz
       obtain⟨T,hT⟩:∃ T,conOk ds ⟨yk,yx,ya,y_c⟩=T:=⟨_,rfl⟩
       have TA:=Lib.hid (CA.out (.agg #[.int .i64 yk,.slice X yx.length xc,.slice Y ya.length yc,.int .i64 y_c]) ⟨yk,yx,ya,y_c⟩ wr S0 ⟨_,_,rfl,S1,S2⟩ hsz.1 hsz.2 (by omega) T hT)
       obtain⟨p1,hp1⟩:∃ p,p=yx.length:=⟨_,rfl⟩
       obtain⟨p2,hp2⟩:∃ p,p=ya.length:=⟨_,rfl⟩
       rw[← hp1] at e1 TA
       rw[← hp2] at e2 TA
       rw[hT] at hst
       have ST:=Lib.hid hst
       have HC:=Lib.hid (fun W (kk:Since wr W)=>(show W.cell? ⟨g,o+j*4,none⟩=some (.int .i64 yk)∧W.cell? ⟨g,o+j*4+1,none⟩=some (.slice X p1 xc)∧W.cell? ⟨g,o+j*4+2,none⟩=some (.slice Y p2 yc)∧W.cell? ⟨g,o+j*4+3,none⟩=some (.int .i64 y_c) from⟨(kk.cell _ (World.block_lt_of_cell? _ _ e0)).trans e0,(kk.cell _ (World.block_lt_of_cell? _ _ e1)).trans e1,(kk.cell _ (World.block_lt_of_cell? _ _ e2)).trans e2,(kk.cell _ (World.block_lt_of_cell? _ _ e3)).trans e3⟩))
       clear hst hjl HE S0 S1 S2 hsz hT hp1 hp2 e0 e1 e2 e3
       cases T with
       | true =>
        have HE:=Lib.hid (show ((cs.drop (j+1)).all (conOk ds) && Q)=R by have:=ST.out; rw[Bool.true_and] at this; exact this)
        clear ST
        go_wp2
        have hr0:Since wr wr.drew:=Since.drew (Since.refl wr)
        refine wp_region_noPanic ?_
        refine Reg.wp_region_G (S:=fun _=>True) (fun j => [].contains j) (by kernel_rfl) trivial ?_
        refine' Reg.tk3 (i := 0) (v := _) (some 36) [6, 7] [] rfl (Or.inl ⟨by rfl, Or.inl ?hy2⟩) ?r_2
        case hy2=>(intro w' kk ss; obtain⟨x0,x1,x2,x3⟩:=bx4 (BX.out _ (t5.out.trans (hr0.trans kk))); obtain⟨u0,u1,u2,u3⟩:=HC.out _ (hr0.trans kk); go_simp; first | done | with_reducible rfl)
        try simp only[Act.put,Reg.l1,Reg.l2,Reg.l3]
        refine' Reg.tk3 (i := 1) (v := _) (some 37) [2, 4, 5, 6, 7] [] rfl (Or.inl ⟨by rfl, Or.inl ?hy3⟩) ?r_3
        case hy3=>(intro w' kk ss; obtain⟨x0,x1,x2,x3⟩:=bx4 (BX.out _ (t5.out.trans (hr0.trans kk))); obtain⟨u0,u1,u2,u3⟩:=HC.out _ (hr0.trans kk); go_simp; first | done | with_reducible rfl)
        try simp only[Act.put,Reg.l1,Reg.l2,Reg.l3]
        refine' Reg.tk3 (i := 2) (v := _) (some 38) [4, 5, 6, 7] [] rfl (Or.inl ⟨by rfl, Or.inl ?hy4⟩) ?r_4
        case hy4=>(intro w' kk ss; obtain⟨x0,x1,x2,x3⟩:=bx4 (BX.out _ (t5.out.trans (hr0.trans kk))); obtain⟨u0,u1,u2,u3⟩:=HC.out _ (hr0.trans kk); go_simp; first | done | with_reducible rfl)
        try simp only[Act.put,Reg.l1,Reg.l2,Reg.l3]
        refine' Reg.tk3 (i := 3) (v := _) (some 39) [4, 5, 6, 7] [] rfl (Or.inl ⟨by rfl, Or.inl ?hy5⟩) ?r_5
        case hy5=>(intro w' kk ss; obtain⟨x0,x1,x2,x3⟩:=bx4 (BX.out _ (t5.out.trans (hr0.trans kk))); obtain⟨u0,u1,u2,u3⟩:=HC.out _ (hr0.trans kk); go_simp; first | done | with_reducible rfl)
        try simp only[Act.put,Reg.l1,Reg.l2,Reg.l3]
        refine' Reg.tk3 (i := 4) (v := _) (some 40) [5, 6, 7] [] rfl (Or.inl ⟨by rfl, Or.inl ?hy6⟩) ?r_6
        case hy6=>(intro w' kk ss; obtain⟨x0,x1,x2,x3⟩:=bx4 (BX.out _ (t5.out.trans (hr0.trans kk))); obtain⟨u0,u1,u2,u3⟩:=HC.out _ (hr0.trans kk); go_simp; first | done | with_reducible rfl)
        try simp only[Act.put,Reg.l1,Reg.l2,Reg.l3]
        refine' Reg.tk3 (i := 5) (v := _) (some 41) [6, 7] [] rfl (Or.inl ⟨by rfl, Or.inl ?hy7⟩) ?r_7
        case hy7=>(intro w' kk ss; obtain⟨x0,x1,x2,x3⟩:=bx4 (BX.out _ (t5.out.trans (hr0.trans kk))); obtain⟨u0,u1,u2,u3⟩:=HC.out _ (hr0.trans kk); go_simp; first | done | with_reducible rfl)
        try simp only[Act.put,Reg.l1,Reg.l2,Reg.l3]
        refine Reg.tk3 (i := 6) (v := .bool true) (some 42) [7] [] rfl (Or.inl ⟨by rfl, Or.inr ⟨141, #[.agg #[.slice D nd dc, .slice (some ⟨g, o, none⟩) nc cc, .int .i64 ask, .int .i64 goal], .agg #[.int .i64 yk, .slice X p1 xc, .slice Y p2 yc, .int .i64 y_c]], fun w' kk ss => ⟨?_, ?_⟩⟩⟩) ?_
        · (try dsimp only at ss); go_simp
        · exact TA.out w' (hr0.trans kk)
        try simp only[Act.put,Reg.l1,Reg.l2,Reg.l3]
        refine' Reg.tk3 (i := 7) (v := _) (some 43) [] [] rfl (Or.inl ⟨by rfl, Or.inl ?hy8⟩) ?r_8
        case hy8=>(intro w' kk ss; obtain⟨x0,x1,x2,x3⟩:=bx4 (BX.out _ (t5.out.trans (hr0.trans kk))); obtain⟨u0,u1,u2,u3⟩:=HC.out _ (hr0.trans kk); go_simp; first | done | with_reducible rfl)
        try simp only[Act.put,Reg.l1,Reg.l2,Reg.l3]
        refine Reg.wpG_done (by kernel_rfl) (fun we ke se => ?_) _
        refine NoPanic.normal ?_
        have hr0:=hr0.trans ke
        clear ke
        go_wp2
        go_roundw
        case rel=>exact⟨j+1,by go_num,by omega,HE.out,HV.out.trans hr0⟩
        case measure=>simp[intOf]; omega
       | false =>
        have HE:=Lib.hid (show false=R by have:=ST.out; rw[Bool.false_and,Bool.false_and] at this; exact this)
        clear ST
        go_wp2
        have hr0:Since wr wr.drew:=Since.drew (Since.refl wr)
        refine wp_region_noPanic ?_
        refine Reg.wp_region_G (S:=fun _=>True) (fun j => [].contains j) (by kernel_rfl) trivial ?_
        refine' Reg.tk3 (i := 0) (v := _) (some 36) [6, 7] [] rfl (Or.inl ⟨by rfl, Or.inl ?hy10⟩) ?r_10
        case hy10=>(intro w' kk ss; obtain⟨x0,x1,x2,x3⟩:=bx4 (BX.out _ (t5.out.trans (hr0.trans kk))); obtain⟨u0,u1,u2,u3⟩:=HC.out _ (hr0.trans kk); go_simp; first | done | with_reducible rfl)
        try simp only[Act.put,Reg.l1,Reg.l2,Reg.l3]
        refine' Reg.tk3 (i := 1) (v := _) (some 37) [2, 4, 5, 6, 7] [] rfl (Or.inl ⟨by rfl, Or.inl ?hy11⟩) ?r_11
        case hy11=>(intro w' kk ss; obtain⟨x0,x1,x2,x3⟩:=bx4 (BX.out _ (t5.out.trans (hr0.trans kk))); obtain⟨u0,u1,u2,u3⟩:=HC.out _ (hr0.trans kk); go_simp; first | done | with_reducible rfl)
        try simp only[Act.put,Reg.l1,Reg.l2,Reg.l3]
        refine' Reg.tk3 (i := 2) (v := _) (some 38) [4, 5, 6, 7] [] rfl (Or.inl ⟨by rfl, Or.inl ?hy12⟩) ?r_12
        case hy12=>(intro w' kk ss; obtain⟨x0,x1,x2,x3⟩:=bx4 (BX.out _ (t5.out.trans (hr0.trans kk))); obtain⟨u0,u1,u2,u3⟩:=HC.out _ (hr0.trans kk); go_simp; first | done | with_reducible rfl)
        try simp only[Act.put,Reg.l1,Reg.l2,Reg.l3]
        refine' Reg.tk3 (i := 3) (v := _) (some 39) [4, 5, 6, 7] [] rfl (Or.inl ⟨by rfl, Or.inl ?hy13⟩) ?r_13
        case hy13=>(intro w' kk ss; obtain⟨x0,x1,x2,x3⟩:=bx4 (BX.out _ (t5.out.trans (hr0.trans kk))); obtain⟨u0,u1,u2,u3⟩:=HC.out _ (hr0.trans kk); go_simp; first | done | with_reducible rfl)
        try simp only[Act.put,Reg.l1,Reg.l2,Reg.l3]
        refine' Reg.tk3 (i := 4) (v := _) (some 40) [5, 6, 7] [] rfl (Or.inl ⟨by rfl, Or.inl ?hy14⟩) ?r_14
        case hy14=>(intro w' kk ss; obtain⟨x0,x1,x2,x3⟩:=bx4 (BX.out _ (t5.out.trans (hr0.trans kk))); obtain⟨u0,u1,u2,u3⟩:=HC.out _ (hr0.trans kk); go_simp; first | done | with_reducible rfl)
        try simp only[Act.put,Reg.l1,Reg.l2,Reg.l3]
        refine' Reg.tk3 (i := 5) (v := _) (some 41) [6, 7] [] rfl (Or.inl ⟨by rfl, Or.inl ?hy15⟩) ?r_15
        case hy15=>(intro w' kk ss; obtain⟨x0,x1,x2,x3⟩:=bx4 (BX.out _ (t5.out.trans (hr0.trans kk))); obtain⟨u0,u1,u2,u3⟩:=HC.out _ (hr0.trans kk); go_simp; first | done | with_reducible rfl)
        try simp only[Act.put,Reg.l1,Reg.l2,Reg.l3]
        refine Reg.tk3 (i := 6) (v := .bool false) (some 42) [7] [] rfl (Or.inl ⟨by rfl, Or.inr ⟨141, #[.agg #[.slice D nd dc, .slice (some ⟨g, o, none⟩) nc cc, .int .i64 ask, .int .i64 goal], .agg #[.int .i64 yk, .slice X p1 xc, .slice Y p2 yc, .int .i64 y_c]], fun w' kk ss => ⟨?_, ?_⟩⟩⟩) ?_
        · (try dsimp only at ss); go_simp
        · exact TA.out w' (hr0.trans kk)
        try simp only[Act.put,Reg.l1,Reg.l2,Reg.l3]
        refine' Reg.tk3 (i := 7) (v := _) (some 43) [] [] rfl (Or.inl ⟨by rfl, Or.inl ?hy16⟩) ?r_16
        case hy16=>(intro w' kk ss; obtain⟨x0,x1,x2,x3⟩:=bx4 (BX.out _ (t5.out.trans (hr0.trans kk))); obtain⟨u0,u1,u2,u3⟩:=HC.out _ (hr0.trans kk); go_simp; first | done | with_reducible rfl)
        try simp only[Act.put,Reg.l1,Reg.l2,Reg.l3]
        refine Reg.wpG_done (by kernel_rfl) (fun we ke se => ?_) _
        refine NoPanic.normal ?_
        have hr0:=hr0.trans ke
        clear ke
        go_wp2
        go_ret
        exact .of HE.out (ka.out.trans (t5.out.trans hr0))
     · obtain rfl:nc=j:=by omega
       have HE2:=Lib.hid (show Q=R by rw[← HE.out,List.drop_of_length_le (by have:=HNC.out; omega)]; rfl)
       have HQR:=Lib.hid (show (if ask=0 then decide (goal=0) else if ask=1∨ask=2 then isV nd goal else false)=R by rw[← HE2.out,HQ.out])
       clear HE HE2 HQ
       by_cases a0:ask=0
       · subst a0
         by_cases g0:goal=0
         · have E:=Lib.hid (show true=R by rw[← HQR.out,if_pos rfl,decide_eq_true g0])
           subst g0
           clear HQR
           go_wp2
           go_ret
           exact .of E.out (ka.out.trans t5.out)
         · have E:=Lib.hid (show false=R by rw[← HQR.out,if_pos rfl,decide_eq_false g0])
           have z:(goal == 0)=false:=by rw[beq_eq_false_iff_ne]; exact g0
           clear HQR g0
           go_wp2
           go_ret
           exact .of E.out (ka.out.trans t5.out)
       · have z0:(ask == 0)=false:=by rw[beq_eq_false_iff_ne]; exact a0
         by_cases a12:ask=1∨ask=2
         · have HV2:=Lib.hid (show isV nd goal=R by rw[← HQR.out,if_neg a0,if_pos a12])
           clear HQR a0
           by_cases g0:goal ≥ 0
           · by_cases g1:goal<(nd:Int)
             · have E:=Lib.hid (show true=R by rw[← HV2.out]; simp only[isV,Bool.true_eq,Bool.and_eq_true,decide_eq_true_eq]; omega)
               clear HV2
               rcases a12 with rfl | rfl
               all_goals go_wp2
               all_goals go_ret
               all_goals exact .of E.out (ka.out.trans t5.out)
             · have E:=Lib.hid (show false=R by rw[← HV2.out]; simp only[isV,Bool.false_eq,Bool.and_eq_false_iff,decide_eq_false_iff_not]; omega)
               clear HV2
               rcases a12 with rfl | rfl
               all_goals go_wp2
               all_goals go_ret
               all_goals exact .of E.out (ka.out.trans t5.out)
           · have E:=Lib.hid (show false=R by rw[← HV2.out]; simp only[isV,Bool.false_eq,Bool.and_eq_false_iff,decide_eq_false_iff_not]; omega)
             clear HV2
             rcases a12 with rfl | rfl
             all_goals go_wp2
             all_goals go_ret
             all_goals exact .of E.out (ka.out.trans t5.out)
         · have E:=Lib.hid (show false=R by rw[← HQR.out,if_neg a0,if_neg a12])
           have z1:(ask == 1)=false:=by rw[beq_eq_false_iff_ne]; omega
           have z2:(ask == 2)=false:=by rw[beq_eq_false_iff_ne]; omega
           clear HQR a0 a12
           go_wp2
           go_ret
           exact .of E.out (ka.out.trans t5.out)
end
end Go.Proofs.Ytilgmkhcpmegjaa.Sn
