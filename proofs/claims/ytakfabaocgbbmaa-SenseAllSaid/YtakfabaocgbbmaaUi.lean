/- Layer 11 (sense): the landed someLiteral, chosenFrom, allDiffer, load, neverAbove. -/
import Derived.Test.YtakfabaocgbbmaaUh
set_option maxHeartbeats 2000000
set_option maxRecDepth 20000
namespace Go.Proofs.Ytakfabaocgbbmaa.Sn
open Go.RowKit
set_option linter.unusedVariables false
set_option linter.unusedSimpArgs false
open Dig Lx Tk Ti Zs Tr
theorem someLiteral_any (u:Value) (k:Int) (x a:List Int) (c:Int) (v:List Int) (w:World) (h:PlAt w u k x a c v) (hn:a.length≤v.length) (hl:v.length≤1100000) :
    Calls Try.prog 94 #[u] w (RetT (lits a v) w):=by
  obtain⟨R,hR⟩:∃ R,R=lits a v:=⟨_,rfl⟩
  have HR:=Lib.hid (show (a.zip v).any litE=R from hR.symm)
  rw[← hR]
  obtain⟨X,xc,Y,yc,V,vc,rfl,h1,h2,h3⟩:=h
  obtain⟨na,hna⟩:∃ n,n=a.length:=⟨_,rfl⟩
  obtain⟨nv,hnv⟩:∃ n,n=v.length:=⟨_,rfl⟩
  rw[← hna] at h2
  rw[← hnv] at h3
  rw[← hna] at hn ⊢
  rw[← hnv] at hn hl ⊢
  generalize x.length=nx at *
  have ka:=Lib.hid (sA w (.cells #[.int .i64 k,.slice X nx xc,.slice Y na yc,.int .i64 c,.slice V nv vc] 73))
  have BX:=Lib.hid (fun W (kk:Since (w.alloc (.cells #[.int .i64 k,.slice X nx xc,.slice Y na yc,.int .i64 c,.slice V nv vc] 73)) W)=>(Bx.fresh w #[.int .i64 k,.slice X nx xc,.slice Y na yc,.int .i64 c,.slice V nv vc] 73).since kk)
  have H2:=Lib.hid h2
  have H3:=Lib.hid h3
  have HNA:=Lib.hid hna
  have HNV:=Lib.hid hnv
  clear h1 h2 h3 hna hnv hR
  go_enter Try.func94,Try.ntmps94
  go_wp2
  go_loopw [9] (fun i wr=>∃ j:Nat,i = .int .i64 (j:Int)∧j≤na∧Hid (((a.zip v).drop j).any litE=R)∧Hid (Since (w.alloc (.cells #[.int .i64 k,.slice X nx xc,.slice Y na yc,.int .i64 c,.slice V nv vc] 73)) wr)) (fun i _=>na - (intOf i).toNat)
  case atStart=>exact⟨0,rfl,Nat.zero_le _,HR.out,Since.refl _⟩
  case round =>
    obtain⟨j,rfl,hj,HE,HW⟩:=hrel
    obtain⟨_,_,b2,_,_⟩:=bx5 (BX.out _ HW.out)
    by_cases hjn:j<na
    · have hja:j<a.length:=by have:=HNA.out; omega
      have hjv:j<v.length:=by have:=HNV.out; omega
      obtain⟨g,o,rfl,e0⟩:=elI (H2.out.since stI (ka.out.trans HW.out)) hja
      obtain⟨g',o',rfl,e1⟩:=elI (H3.out.since stI (ka.out.trans HW.out)) hjv
      have hst:=HE.out
      rw[zip_at hja hjv,List.any_cons] at hst
      generalize a[j]=y at *
      generalize v[j]=m at *
      have ST:=Lib.hid hst
      have hjv2:j<nv:=by omega
      clear hst hja hjv HE
      cases hm:(m == 1) <;> cases hy:(y == 1)
      all_goals first
        | (have HE:=Lib.hid (show true=R by rw[← ST.out,litE,hm,hy]; rfl)
           clear ST
           go_wp2
           go_ret
           exact .of HE.out (ka.out.trans HW.out))
        | (have HE:=Lib.hid (show ((a.zip v).drop (j+1)).any litE=R by rw[← ST.out,litE,hm,hy]; rfl)
           clear ST
           go_wp2
           go_roundw
           case rel=>exact⟨j+1,by go_num,by omega,HE.out,HW.out⟩
           case measure=>simp[intOf]; omega)
    · obtain rfl:j=na:=by omega
      have HE2:=Lib.hid (show false=R by rw[← HE.out,List.drop_of_length_le (by rw[List.length_zip]; have:=HNA.out; omega)]; rfl)
      go_wp2
      go_ret
      exact .of HE2.out (ka.out.trans HW.out)
theorem last_at {u:Value} {k:Int} {x a:List Int} {c:Int} {v:List Int} {w:World} (h:PlAt w u k x a c v) (hv:0<v.length) (hl:v.length≤1100000) {L:Int} (hL:lastV v=L) (W:World) (kk:Since w W) :
    Calls Try.prog 112 #[u] W (fun e w'=>e = .returned (.int .i64 L)∧Since W w'∧True):=by
  subst hL
  exact (last_any u k x a c v W (h.since kk) hv hl).mono fun e w' h=>⟨h.1,h.2,trivial⟩
theorem chosenFrom_any (u vl:Value) (k:Int) (x a:List Int) (c:Int) (v l:List Int) (w:World) (h:PlAt w u k x a c v) (hL:Sl 1 QI w vl l) (hv:0<v.length) (hl:v.length≤1100000) (hll:l.length≤1100000) (hq:fits (v.getD 0 0)) :
    Calls Try.prog 97 #[u,vl] w (RetT (chosen v l) w):=by
  have LA:=Lib.hid (fun L (e:lastV v=L)=>last_at h hv hl e)
  obtain⟨X,xc,Y,yc,V,vc,rfl,h1,h2,h3⟩:=h
  obtain⟨na,hna⟩:∃ n,n=a.length:=⟨_,rfl⟩
  obtain⟨nv,hnv⟩:∃ n,n=v.length:=⟨_,rfl⟩
  rw[← hna] at h2
  rw[← hnv] at h3
  rw[← hna,← hnv] at LA
  rw[← hnv] at hl hv
  obtain⟨L,cl,rfl⟩:=hL.form
  obtain⟨nl,hnl⟩:∃ n,n=l.length:=⟨_,rfl⟩
  rw[← hnl] at hL hll ⊢
  rw[← hna,← hnv]
  obtain⟨b,o,rfl,e0⟩:=getI h3 0 hv
  obtain⟨lv,hlv⟩:∃ z,lastV v=z:=⟨_,rfl⟩
  obtain⟨q,hqe⟩:∃ q,q=v.getD 0 0:=⟨_,rfl⟩
  have ec:chosen v l=(decide (1≤q) && decide (q≤(nl:Int)) && (l.getD (q - 1).toNat 0 == lv)):=by rw[chosen,hqe,hnl,hlv]
  rw[ec]
  rw[← hqe] at e0 hq
  have LB:=Lib.hid (LA.out lv hlv)
  simp only[Nat.add_zero] at e0
  simp only[fits] at hq
  generalize x.length=nx at *
  have HL:=Lib.hid hL
  have ka:=Lib.hid (sA w (.cells #[.int .i64 k,.slice X nx xc,.slice Y na yc,.int .i64 c,.slice (some ⟨b,o,none⟩) nv vc] 73))
  have BX:=Lib.hid (fun W (kk:Since (w.alloc (.cells #[.int .i64 k,.slice X nx xc,.slice Y na yc,.int .i64 c,.slice (some ⟨b,o,none⟩) nv vc] 73)) W)=>(Bx.fresh w #[.int .i64 k,.slice X nx xc,.slice Y na yc,.int .i64 c,.slice (some ⟨b,o,none⟩) nv vc] 73).since kk)
  have e1:=(ka.out.cell _ (World.block_lt_of_cell? _ _ e0)).trans e0
  clear h1 h2 h3 hna hnv hnl hL ec hqe LA hlv e0
  by_cases c1:1≤q
  case neg =>
    rw[decide_eq_false c1,Bool.false_and,Bool.false_and]
    have z1:decide (1≤q)=false:=decide_eq_false c1
    clear LB
    go_enter Try.func97,Try.ntmps97
    go_wp2
    obtain⟨W0,hW0⟩:∃ W0,W0=w.alloc (.cells #[.int .i64 k,.slice X nx xc,.slice Y na yc,.int .i64 c,.slice (some ⟨b,o,none⟩) nv vc] 73):=⟨_,rfl⟩
    rw[← hW0]
    rw[← hW0] at ka BX
    clear hW0
    have hr0:Since W0 W0.drew:=Since.drew (Since.refl W0)
    refine wp_region_noPanic ?_
    refine Reg.wp_region_G (S:=fun _=>True) (fun j => [].contains j) (by kernel_rfl) trivial ?_
    refine' Reg.tk (i := 0) (oi := { dst := some 10, op := Op.move (Operand.tmp 5), type := 2, pos := "kinds.go:93", after := #[], guard := none }) (v := _) [1, 2, 3, 4, 5, 6, 7, 8, 9, 10, 11, 12, 13, 14, 15, 16, 17, 18] [] (Or.inl ⟨by rfl, Or.inl ?hy2⟩) ?r_2
    case hy2=>(intro w' kk ss; obtain⟨x0,x1,x2,x3,x4⟩:=bx5 (BX.out _ (hr0.trans kk)); go_simp; first | done | with_reducible rfl)
    try simp only[Act.put,Reg.l1,Reg.l2,Reg.l3]
    refine' Reg.tk (i := 1) (oi := { dst := some 11, op := Op.binOp BinOp.geq 2 (Operand.tmp 10) (Operand.const (Value.int IntKind.i64 1)) 2, type := 4, pos := "kinds.go:93", after := #[{ on := 0, ground := Ground.data }], guard := none }) (v := _) [2, 3, 4, 5, 6, 7, 8, 9, 10, 11, 12, 13, 14, 15, 16, 17, 18] [] (Or.inl ⟨by rfl, Or.inl ?hy3⟩) ?r_3
    case hy3=>(intro w' kk ss; obtain⟨x0,x1,x2,x3,x4⟩:=bx5 (BX.out _ (hr0.trans kk)); go_simp; first | done | with_reducible rfl)
    try simp only[Act.put,Reg.l1,Reg.l2,Reg.l3]
    refine' Reg.tk (i := 2) (oi := { dst := some 12, op := Op.move (Operand.tmp 11), type := 4, pos := "kinds.go:93", after := #[{ on := 1, ground := Ground.data }], guard := none }) (v := _) [3, 4, 5, 6, 7, 8, 9, 10, 11, 12, 13, 14, 15, 16, 17, 18] [] (Or.inl ⟨by rfl, Or.inl ?hy4⟩) ?r_4
    case hy4=>(intro w' kk ss; obtain⟨x0,x1,x2,x3,x4⟩:=bx5 (BX.out _ (hr0.trans kk)); go_simp; first | done | with_reducible rfl)
    try simp only[Act.put,Reg.l1,Reg.l2,Reg.l3]
    refine Reg.tk (i := 3) (oi := { dst := some 13, op := Op.move (Operand.tmp 5), type := 2, pos := "kinds.go:93", after := #[{ on := 2, ground := Ground.guard }], guard := some (2, true) }) (v := undef) [6, 7, 8, 9, 10, 11, 12, 13, 14, 15, 16, 17, 18] [] (Or.inr ⟨by rfl, rfl⟩) ?_
    try simp only[Act.put,Reg.l1,Reg.l2,Reg.l3]
    refine Reg.tk (i := 4) (oi := { dst := some 14, op := Op.move (Operand.tmp 1), type := 23, pos := "kinds.go:93", after := #[{ on := 2, ground := Ground.guard }], guard := some (2, true) }) (v := undef) [5, 6, 7, 8, 9, 10, 11, 12, 13, 14, 15, 16, 17, 18] [] (Or.inr ⟨by rfl, rfl⟩) ?_
    try simp only[Act.put,Reg.l1,Reg.l2,Reg.l3]
    refine Reg.tk (i := 5) (oi := { dst := some 15, op := Op.call { callee := Callee.builtin Builtin.len, args := #[Operand.tmp 14], argTypes := #[23] }, type := 3, pos := "kinds.go:93", after := #[{ on := 4, ground := Ground.data }, { on := 2, ground := Ground.guard }], guard := some (2, true) }) (v := undef) [6, 7, 8, 9, 10, 11, 12, 13, 14, 15, 16, 17, 18] [] (Or.inr ⟨by rfl, rfl⟩) ?_
    try simp only[Act.put,Reg.l1,Reg.l2,Reg.l3]
    refine Reg.tk (i := 6) (oi := { dst := some 16, op := Op.binOp BinOp.leq 2 (Operand.tmp 13) (Operand.tmp 15) 2, type := 4, pos := "kinds.go:93", after := #[{ on := 3, ground := Ground.data }, { on := 5, ground := Ground.data }, { on := 2, ground := Ground.guard }], guard := some (2, true) }) (v := undef) [7, 8, 9, 10, 11, 12, 13, 14, 15, 16, 17, 18] [] (Or.inr ⟨by rfl, rfl⟩) ?_
    try simp only[Act.put,Reg.l1,Reg.l2,Reg.l3]
    refine' Reg.tk (i := 7) (oi := { dst := some 17, op := Op.pick (Operand.tmp 12) (Operand.tmp 16) (Operand.const (Value.bool false)), type := 4, pos := "kinds.go:93", after := #[{ on := 2, ground := Ground.data }, { on := 6, ground := Ground.data }], guard := none }) (v := _) [8, 9, 10, 11, 12, 13, 14, 15, 16, 17, 18] [] (Or.inl ⟨by rfl, Or.inl ?hy5⟩) ?r_5
    case hy5=>(intro w' kk ss; obtain⟨x0,x1,x2,x3,x4⟩:=bx5 (BX.out _ (hr0.trans kk)); go_simp; first | done | with_reducible rfl)
    try simp only[Act.put,Reg.l1,Reg.l2,Reg.l3]
    refine' Reg.tk (i := 8) (oi := { dst := some 18, op := Op.move (Operand.tmp 17), type := 4, pos := "kinds.go:93", after := #[{ on := 7, ground := Ground.data }, { on := 2, ground := Ground.chain }], guard := none }) (v := _) [9, 10, 11, 12, 13, 14, 15, 16, 17, 18] [] (Or.inl ⟨by rfl, Or.inl ?hy6⟩) ?r_6
    case hy6=>(intro w' kk ss; obtain⟨x0,x1,x2,x3,x4⟩:=bx5 (BX.out _ (hr0.trans kk)); go_simp; first | done | with_reducible rfl)
    try simp only[Act.put,Reg.l1,Reg.l2,Reg.l3]
    refine Reg.tk (i := 9) (oi := { dst := some 19, op := Op.move (Operand.tmp 1), type := 23, pos := "kinds.go:93", after := #[{ on := 8, ground := Ground.guard }], guard := some (8, true) }) (v := undef) [12, 13, 16, 17, 18] [] (Or.inr ⟨by rfl, rfl⟩) ?_
    try simp only[Act.put,Reg.l1,Reg.l2,Reg.l3]
    refine Reg.tk (i := 10) (oi := { dst := some 20, op := Op.move (Operand.tmp 5), type := 2, pos := "kinds.go:93", after := #[{ on := 8, ground := Ground.guard }], guard := some (8, true) }) (v := undef) [11, 12, 13, 16, 17, 18] [] (Or.inr ⟨by rfl, rfl⟩) ?_
    try simp only[Act.put,Reg.l1,Reg.l2,Reg.l3]
    refine Reg.tk (i := 11) (oi := { dst := some 21, op := Op.binOp BinOp.sub 2 (Operand.tmp 20) (Operand.const (Value.int IntKind.i64 1)) 2, type := 2, pos := "kinds.go:93", after := #[{ on := 10, ground := Ground.data }, { on := 8, ground := Ground.guard }], guard := some (8, true) }) (v := undef) [12, 13, 16, 17, 18] [] (Or.inr ⟨by rfl, rfl⟩) ?_
    try simp only[Act.put,Reg.l1,Reg.l2,Reg.l3]
    refine Reg.tk (i := 12) (oi := { dst := some 22, op := Op.indexAddr 23 (Operand.tmp 19) (Operand.tmp 21), type := 0, pos := "kinds.go:93", after := #[{ on := 9, ground := Ground.data }, { on := 11, ground := Ground.data }, { on := 8, ground := Ground.guard }], guard := some (8, true) }) (v := undef) [13, 16, 17, 18] [] (Or.inr ⟨by rfl, rfl⟩) ?_
    try simp only[Act.put,Reg.l1,Reg.l2,Reg.l3]
    refine Reg.tk (i := 13) (oi := { dst := some 23, op := Op.load 2 (Operand.tmp 22), type := 2, pos := "kinds.go:93", after := #[{ on := 12, ground := Ground.data }, { on := 8, ground := Ground.guard }], guard := some (8, true) }) (v := undef) [16, 17, 18] [] (Or.inr ⟨by rfl, rfl⟩) ?_
    try simp only[Act.put,Reg.l1,Reg.l2,Reg.l3]
    refine Reg.tk (i := 14) (oi := { dst := some 24, op := Op.load 73 (Operand.tmp 2), type := 73, pos := "kinds.go:93", after := #[{ on := 8, ground := Ground.guard }], guard := some (8, true) }) (v := undef) [15, 16, 17, 18] [] (Or.inr ⟨by rfl, rfl⟩) ?_
    try simp only[Act.put,Reg.l1,Reg.l2,Reg.l3]
    refine Reg.tk (i := 15) (oi := { dst := some 25, op := Op.call { callee := Callee.value (Operand.func 112), args := #[Operand.tmp 24], argTypes := #[73] }, type := 2, pos := "kinds.go:93", after := #[{ on := 14, ground := Ground.data }, { on := 8, ground := Ground.chain }, { on := 8, ground := Ground.guard }], guard := some (8, true) }) (v := undef) [16, 17, 18] [] (Or.inr ⟨by rfl, rfl⟩) ?_
    try simp only[Act.put,Reg.l1,Reg.l2,Reg.l3]
    refine Reg.tk (i := 16) (oi := { dst := some 26, op := Op.binOp BinOp.eql 2 (Operand.tmp 23) (Operand.tmp 25) 2, type := 4, pos := "kinds.go:93", after := #[{ on := 13, ground := Ground.data }, { on := 15, ground := Ground.data }, { on := 8, ground := Ground.guard }], guard := some (8, true) }) (v := undef) [17, 18] [] (Or.inr ⟨by rfl, rfl⟩) ?_
    try simp only[Act.put,Reg.l1,Reg.l2,Reg.l3]
    refine' Reg.tk (i := 17) (oi := { dst := some 27, op := Op.pick (Operand.tmp 18) (Operand.tmp 26) (Operand.const (Value.bool false)), type := 4, pos := "kinds.go:93", after := #[{ on := 8, ground := Ground.data }, { on := 16, ground := Ground.data }], guard := none }) (v := _) [18] [] (Or.inl ⟨by rfl, Or.inl ?hy7⟩) ?r_7
    case hy7=>(intro w' kk ss; obtain⟨x0,x1,x2,x3,x4⟩:=bx5 (BX.out _ (hr0.trans kk)); go_simp; first | done | with_reducible rfl)
    try simp only[Act.put,Reg.l1,Reg.l2,Reg.l3]
    refine' Reg.tk (i := 18) (oi := { dst := some 4, op := Op.assign (Operand.tmp 27), type := 4, pos := "kinds.go:93", after := #[{ on := 17, ground := Ground.data }, { on := 15, ground := Ground.chain }, { on := 0, ground := Ground.phase }, { on := 1, ground := Ground.phase }, { on := 2, ground := Ground.phase }, { on := 3, ground := Ground.phase }, { on := 4, ground := Ground.phase }, { on := 5, ground := Ground.phase }, { on := 6, ground := Ground.phase }, { on := 7, ground := Ground.phase }, { on := 8, ground := Ground.phase }, { on := 9, ground := Ground.phase }, { on := 10, ground := Ground.phase }, { on := 11, ground := Ground.phase }, { on := 12, ground := Ground.phase }, { on := 13, ground := Ground.phase }, { on := 14, ground := Ground.phase }, { on := 15, ground := Ground.phase }, { on := 16, ground := Ground.phase }, { on := 17, ground := Ground.phase }], guard := none }) (v := _) [] [] (Or.inl ⟨by rfl, Or.inl ?hy8⟩) ?r_8
    case hy8=>(intro w' kk ss; obtain⟨x0,x1,x2,x3,x4⟩:=bx5 (BX.out _ (hr0.trans kk)); go_simp; first | done | with_reducible rfl)
    try simp only[Act.put,Reg.l1,Reg.l2,Reg.l3]
    refine Reg.wpG_done (by kernel_rfl) (fun we ke se => ?_) _
    refine NoPanic.normal ?_
    have hr0:=hr0.trans ke
    clear ke
    go_wp2
    go_ret
    exact⟨rfl,ka.out.trans hr0⟩
  by_cases c2:q≤(nl:Int)
  case neg =>
    rw[decide_eq_false c2,Bool.and_false,Bool.false_and]
    have z2:decide (q≤(nl:Int))=false:=decide_eq_false c2
    clear LB
    go_enter Try.func97,Try.ntmps97
    go_wp2
    obtain⟨W0,hW0⟩:∃ W0,W0=w.alloc (.cells #[.int .i64 k,.slice X nx xc,.slice Y na yc,.int .i64 c,.slice (some ⟨b,o,none⟩) nv vc] 73):=⟨_,rfl⟩
    rw[← hW0]
    rw[← hW0] at ka BX
    clear hW0
    have hr0:Since W0 W0.drew:=Since.drew (Since.refl W0)
    refine wp_region_noPanic ?_
    refine Reg.wp_region_G (S:=fun _=>True) (fun j => [].contains j) (by kernel_rfl) trivial ?_
    refine' Reg.tk (i := 0) (oi := { dst := some 10, op := Op.move (Operand.tmp 5), type := 2, pos := "kinds.go:93", after := #[], guard := none }) (v := _) [1, 2, 3, 4, 5, 6, 7, 8, 9, 10, 11, 12, 13, 14, 15, 16, 17, 18] [] (Or.inl ⟨by rfl, Or.inl ?hy10⟩) ?r_10
    case hy10=>(intro w' kk ss; obtain⟨x0,x1,x2,x3,x4⟩:=bx5 (BX.out _ (hr0.trans kk)); go_simp; first | done | with_reducible rfl)
    try simp only[Act.put,Reg.l1,Reg.l2,Reg.l3]
    refine' Reg.tk (i := 1) (oi := { dst := some 11, op := Op.binOp BinOp.geq 2 (Operand.tmp 10) (Operand.const (Value.int IntKind.i64 1)) 2, type := 4, pos := "kinds.go:93", after := #[{ on := 0, ground := Ground.data }], guard := none }) (v := _) [2, 3, 4, 5, 6, 7, 8, 9, 10, 11, 12, 13, 14, 15, 16, 17, 18] [] (Or.inl ⟨by rfl, Or.inl ?hy11⟩) ?r_11
    case hy11=>(intro w' kk ss; obtain⟨x0,x1,x2,x3,x4⟩:=bx5 (BX.out _ (hr0.trans kk)); go_simp; first | done | with_reducible rfl)
    try simp only[Act.put,Reg.l1,Reg.l2,Reg.l3]
    refine' Reg.tk (i := 2) (oi := { dst := some 12, op := Op.move (Operand.tmp 11), type := 4, pos := "kinds.go:93", after := #[{ on := 1, ground := Ground.data }], guard := none }) (v := _) [3, 4, 5, 6, 7, 8, 9, 10, 11, 12, 13, 14, 15, 16, 17, 18] [] (Or.inl ⟨by rfl, Or.inl ?hy12⟩) ?r_12
    case hy12=>(intro w' kk ss; obtain⟨x0,x1,x2,x3,x4⟩:=bx5 (BX.out _ (hr0.trans kk)); go_simp; first | done | with_reducible rfl)
    try simp only[Act.put,Reg.l1,Reg.l2,Reg.l3]
    refine' Reg.tk (i := 3) (oi := { dst := some 13, op := Op.move (Operand.tmp 5), type := 2, pos := "kinds.go:93", after := #[{ on := 2, ground := Ground.guard }], guard := some (2, true) }) (v := _) [6, 7, 8, 9, 10, 11, 12, 13, 14, 15, 16, 17, 18] [] (Or.inl ⟨by rfl, Or.inl ?hy13⟩) ?r_13
    case hy13=>(intro w' kk ss; obtain⟨x0,x1,x2,x3,x4⟩:=bx5 (BX.out _ (hr0.trans kk)); go_simp; first | done | with_reducible rfl)
    try simp only[Act.put,Reg.l1,Reg.l2,Reg.l3]
    refine' Reg.tk (i := 4) (oi := { dst := some 14, op := Op.move (Operand.tmp 1), type := 23, pos := "kinds.go:93", after := #[{ on := 2, ground := Ground.guard }], guard := some (2, true) }) (v := _) [5, 6, 7, 8, 9, 10, 11, 12, 13, 14, 15, 16, 17, 18] [] (Or.inl ⟨by rfl, Or.inl ?hy14⟩) ?r_14
    case hy14=>(intro w' kk ss; obtain⟨x0,x1,x2,x3,x4⟩:=bx5 (BX.out _ (hr0.trans kk)); go_simp; first | done | with_reducible rfl)
    try simp only[Act.put,Reg.l1,Reg.l2,Reg.l3]
    refine' Reg.tk (i := 5) (oi := { dst := some 15, op := Op.call { callee := Callee.builtin Builtin.len, args := #[Operand.tmp 14], argTypes := #[23] }, type := 3, pos := "kinds.go:93", after := #[{ on := 4, ground := Ground.data }, { on := 2, ground := Ground.guard }], guard := some (2, true) }) (v := _) [6, 7, 8, 9, 10, 11, 12, 13, 14, 15, 16, 17, 18] [] (Or.inl ⟨by rfl, Or.inl ?hy15⟩) ?r_15
    case hy15=>(intro w' kk ss; obtain⟨x0,x1,x2,x3,x4⟩:=bx5 (BX.out _ (hr0.trans kk)); go_simp; first | done | with_reducible rfl)
    try simp only[Act.put,Reg.l1,Reg.l2,Reg.l3]
    refine' Reg.tk (i := 6) (oi := { dst := some 16, op := Op.binOp BinOp.leq 2 (Operand.tmp 13) (Operand.tmp 15) 2, type := 4, pos := "kinds.go:93", after := #[{ on := 3, ground := Ground.data }, { on := 5, ground := Ground.data }, { on := 2, ground := Ground.guard }], guard := some (2, true) }) (v := _) [7, 8, 9, 10, 11, 12, 13, 14, 15, 16, 17, 18] [] (Or.inl ⟨by rfl, Or.inl ?hy16⟩) ?r_16
    case hy16=>(intro w' kk ss; obtain⟨x0,x1,x2,x3,x4⟩:=bx5 (BX.out _ (hr0.trans kk)); go_simp; first | done | with_reducible rfl)
    try simp only[Act.put,Reg.l1,Reg.l2,Reg.l3]
    refine' Reg.tk (i := 7) (oi := { dst := some 17, op := Op.pick (Operand.tmp 12) (Operand.tmp 16) (Operand.const (Value.bool false)), type := 4, pos := "kinds.go:93", after := #[{ on := 2, ground := Ground.data }, { on := 6, ground := Ground.data }], guard := none }) (v := _) [8, 9, 10, 11, 12, 13, 14, 15, 16, 17, 18] [] (Or.inl ⟨by rfl, Or.inl ?hy17⟩) ?r_17
    case hy17=>(intro w' kk ss; obtain⟨x0,x1,x2,x3,x4⟩:=bx5 (BX.out _ (hr0.trans kk)); go_simp; first | done | with_reducible rfl)
    try simp only[Act.put,Reg.l1,Reg.l2,Reg.l3]
    refine' Reg.tk (i := 8) (oi := { dst := some 18, op := Op.move (Operand.tmp 17), type := 4, pos := "kinds.go:93", after := #[{ on := 7, ground := Ground.data }, { on := 2, ground := Ground.chain }], guard := none }) (v := _) [9, 10, 11, 12, 13, 14, 15, 16, 17, 18] [] (Or.inl ⟨by rfl, Or.inl ?hy18⟩) ?r_18
    case hy18=>(intro w' kk ss; obtain⟨x0,x1,x2,x3,x4⟩:=bx5 (BX.out _ (hr0.trans kk)); go_simp; first | done | with_reducible rfl)
    try simp only[Act.put,Reg.l1,Reg.l2,Reg.l3]
    refine Reg.tk (i := 9) (oi := { dst := some 19, op := Op.move (Operand.tmp 1), type := 23, pos := "kinds.go:93", after := #[{ on := 8, ground := Ground.guard }], guard := some (8, true) }) (v := undef) [12, 13, 16, 17, 18] [] (Or.inr ⟨by rfl, rfl⟩) ?_
    try simp only[Act.put,Reg.l1,Reg.l2,Reg.l3]
    refine Reg.tk (i := 10) (oi := { dst := some 20, op := Op.move (Operand.tmp 5), type := 2, pos := "kinds.go:93", after := #[{ on := 8, ground := Ground.guard }], guard := some (8, true) }) (v := undef) [11, 12, 13, 16, 17, 18] [] (Or.inr ⟨by rfl, rfl⟩) ?_
    try simp only[Act.put,Reg.l1,Reg.l2,Reg.l3]
    refine Reg.tk (i := 11) (oi := { dst := some 21, op := Op.binOp BinOp.sub 2 (Operand.tmp 20) (Operand.const (Value.int IntKind.i64 1)) 2, type := 2, pos := "kinds.go:93", after := #[{ on := 10, ground := Ground.data }, { on := 8, ground := Ground.guard }], guard := some (8, true) }) (v := undef) [12, 13, 16, 17, 18] [] (Or.inr ⟨by rfl, rfl⟩) ?_
    try simp only[Act.put,Reg.l1,Reg.l2,Reg.l3]
    refine Reg.tk (i := 12) (oi := { dst := some 22, op := Op.indexAddr 23 (Operand.tmp 19) (Operand.tmp 21), type := 0, pos := "kinds.go:93", after := #[{ on := 9, ground := Ground.data }, { on := 11, ground := Ground.data }, { on := 8, ground := Ground.guard }], guard := some (8, true) }) (v := undef) [13, 16, 17, 18] [] (Or.inr ⟨by rfl, rfl⟩) ?_
    try simp only[Act.put,Reg.l1,Reg.l2,Reg.l3]
    refine Reg.tk (i := 13) (oi := { dst := some 23, op := Op.load 2 (Operand.tmp 22), type := 2, pos := "kinds.go:93", after := #[{ on := 12, ground := Ground.data }, { on := 8, ground := Ground.guard }], guard := some (8, true) }) (v := undef) [16, 17, 18] [] (Or.inr ⟨by rfl, rfl⟩) ?_
    try simp only[Act.put,Reg.l1,Reg.l2,Reg.l3]
    refine Reg.tk (i := 14) (oi := { dst := some 24, op := Op.load 73 (Operand.tmp 2), type := 73, pos := "kinds.go:93", after := #[{ on := 8, ground := Ground.guard }], guard := some (8, true) }) (v := undef) [15, 16, 17, 18] [] (Or.inr ⟨by rfl, rfl⟩) ?_
    try simp only[Act.put,Reg.l1,Reg.l2,Reg.l3]
    refine Reg.tk (i := 15) (oi := { dst := some 25, op := Op.call { callee := Callee.value (Operand.func 112), args := #[Operand.tmp 24], argTypes := #[73] }, type := 2, pos := "kinds.go:93", after := #[{ on := 14, ground := Ground.data }, { on := 8, ground := Ground.chain }, { on := 8, ground := Ground.guard }], guard := some (8, true) }) (v := undef) [16, 17, 18] [] (Or.inr ⟨by rfl, rfl⟩) ?_
    try simp only[Act.put,Reg.l1,Reg.l2,Reg.l3]
    refine Reg.tk (i := 16) (oi := { dst := some 26, op := Op.binOp BinOp.eql 2 (Operand.tmp 23) (Operand.tmp 25) 2, type := 4, pos := "kinds.go:93", after := #[{ on := 13, ground := Ground.data }, { on := 15, ground := Ground.data }, { on := 8, ground := Ground.guard }], guard := some (8, true) }) (v := undef) [17, 18] [] (Or.inr ⟨by rfl, rfl⟩) ?_
    try simp only[Act.put,Reg.l1,Reg.l2,Reg.l3]
    refine' Reg.tk (i := 17) (oi := { dst := some 27, op := Op.pick (Operand.tmp 18) (Operand.tmp 26) (Operand.const (Value.bool false)), type := 4, pos := "kinds.go:93", after := #[{ on := 8, ground := Ground.data }, { on := 16, ground := Ground.data }], guard := none }) (v := _) [18] [] (Or.inl ⟨by rfl, Or.inl ?hy19⟩) ?r_19
    case hy19=>(intro w' kk ss; obtain⟨x0,x1,x2,x3,x4⟩:=bx5 (BX.out _ (hr0.trans kk)); go_simp; first | done | with_reducible rfl)
    try simp only[Act.put,Reg.l1,Reg.l2,Reg.l3]
    refine' Reg.tk (i := 18) (oi := { dst := some 4, op := Op.assign (Operand.tmp 27), type := 4, pos := "kinds.go:93", after := #[{ on := 17, ground := Ground.data }, { on := 15, ground := Ground.chain }, { on := 0, ground := Ground.phase }, { on := 1, ground := Ground.phase }, { on := 2, ground := Ground.phase }, { on := 3, ground := Ground.phase }, { on := 4, ground := Ground.phase }, { on := 5, ground := Ground.phase }, { on := 6, ground := Ground.phase }, { on := 7, ground := Ground.phase }, { on := 8, ground := Ground.phase }, { on := 9, ground := Ground.phase }, { on := 10, ground := Ground.phase }, { on := 11, ground := Ground.phase }, { on := 12, ground := Ground.phase }, { on := 13, ground := Ground.phase }, { on := 14, ground := Ground.phase }, { on := 15, ground := Ground.phase }, { on := 16, ground := Ground.phase }, { on := 17, ground := Ground.phase }], guard := none }) (v := _) [] [] (Or.inl ⟨by rfl, Or.inl ?hy20⟩) ?r_20
    case hy20=>(intro w' kk ss; obtain⟨x0,x1,x2,x3,x4⟩:=bx5 (BX.out _ (hr0.trans kk)); go_simp; first | done | with_reducible rfl)
    try simp only[Act.put,Reg.l1,Reg.l2,Reg.l3]
    refine Reg.wpG_done (by kernel_rfl) (fun we ke se => ?_) _
    refine NoPanic.normal ?_
    have hr0:=hr0.trans ke
    clear ke
    go_wp2
    go_ret
    exact⟨rfl,ka.out.trans hr0⟩
  rw[decide_eq_true c1,decide_eq_true c2,Bool.true_and,Bool.true_and]
  obtain⟨i,hi⟩:∃ i:Nat,q=((i+1:Nat):Int):=⟨(q - 1).toNat,by omega⟩
  have hin:i<nl:=by omega
  obtain⟨b2,o2,rfl,f0⟩:=getI HL.out i hin
  rw[show (q - 1).toNat=i by omega]
  generalize l.getD i 0=z at *
  have HC:=Lib.hid (fun W (kk:Since w W)=>(kk.cell _ (World.block_lt_of_cell? _ _ f0)).trans f0)
  have ew:IntKind.i64.wrap (q - 1)=(i:Int):=by rw[show q - 1=(i:Int) by omega]; exact wrap_id' (by omega) (by omega)
  have ei:q - 1=(i:Int):=by omega
  have ewi:IntKind.i64.wrap (i:Int)=(i:Int):=wrap_id' (by omega) (by omega)
  have z1:decide (1≤q)=true:=decide_eq_true c1
  have z2:decide (q≤(nl:Int))=true:=decide_eq_true c2
  clear HL f0 hi
  go_enter Try.func97,Try.ntmps97
  go_wp2
  obtain⟨W0,hW0⟩:∃ W0,W0=w.alloc (.cells #[.int .i64 k,.slice X nx xc,.slice Y na yc,.int .i64 c,.slice (some ⟨b,o,none⟩) nv vc] 73):=⟨_,rfl⟩
  rw[← hW0]
  rw[← hW0] at ka BX
  clear hW0
  have hr0:Since W0 W0.drew:=Since.drew (Since.refl W0)
  refine wp_region_noPanic ?_
  refine Reg.wp_region_G (S:=fun _=>True) (fun j => [].contains j) (by kernel_rfl) trivial ?_
  refine' Reg.tk (i := 0) (oi := { dst := some 10, op := Op.move (Operand.tmp 5), type := 2, pos := "kinds.go:93", after := #[], guard := none }) (v := _) [1, 2, 3, 4, 5, 6, 7, 8, 9, 10, 11, 12, 13, 14, 15, 16, 17, 18] [] (Or.inl ⟨by rfl, Or.inl ?hy22⟩) ?r_22
  case hy22=>(intro w' kk ss; obtain⟨x0,x1,x2,x3,x4⟩:=bx5 (BX.out _ (hr0.trans kk)); have y0:=HC.out _ (ka.out.trans (hr0.trans kk)); go_simp; first | done | with_reducible rfl)
  try simp only[Act.put,Reg.l1,Reg.l2,Reg.l3]
  refine' Reg.tk (i := 1) (oi := { dst := some 11, op := Op.binOp BinOp.geq 2 (Operand.tmp 10) (Operand.const (Value.int IntKind.i64 1)) 2, type := 4, pos := "kinds.go:93", after := #[{ on := 0, ground := Ground.data }], guard := none }) (v := _) [2, 3, 4, 5, 6, 7, 8, 9, 10, 11, 12, 13, 14, 15, 16, 17, 18] [] (Or.inl ⟨by rfl, Or.inl ?hy23⟩) ?r_23
  case hy23=>(intro w' kk ss; obtain⟨x0,x1,x2,x3,x4⟩:=bx5 (BX.out _ (hr0.trans kk)); have y0:=HC.out _ (ka.out.trans (hr0.trans kk)); go_simp; first | done | with_reducible rfl)
  try simp only[Act.put,Reg.l1,Reg.l2,Reg.l3]
  refine' Reg.tk (i := 2) (oi := { dst := some 12, op := Op.move (Operand.tmp 11), type := 4, pos := "kinds.go:93", after := #[{ on := 1, ground := Ground.data }], guard := none }) (v := _) [3, 4, 5, 6, 7, 8, 9, 10, 11, 12, 13, 14, 15, 16, 17, 18] [] (Or.inl ⟨by rfl, Or.inl ?hy24⟩) ?r_24
  case hy24=>(intro w' kk ss; obtain⟨x0,x1,x2,x3,x4⟩:=bx5 (BX.out _ (hr0.trans kk)); have y0:=HC.out _ (ka.out.trans (hr0.trans kk)); go_simp; first | done | with_reducible rfl)
  try simp only[Act.put,Reg.l1,Reg.l2,Reg.l3]
  refine' Reg.tk (i := 3) (oi := { dst := some 13, op := Op.move (Operand.tmp 5), type := 2, pos := "kinds.go:93", after := #[{ on := 2, ground := Ground.guard }], guard := some (2, true) }) (v := _) [6, 7, 8, 9, 10, 11, 12, 13, 14, 15, 16, 17, 18] [] (Or.inl ⟨by rfl, Or.inl ?hy25⟩) ?r_25
  case hy25=>(intro w' kk ss; obtain⟨x0,x1,x2,x3,x4⟩:=bx5 (BX.out _ (hr0.trans kk)); have y0:=HC.out _ (ka.out.trans (hr0.trans kk)); go_simp; first | done | with_reducible rfl)
  try simp only[Act.put,Reg.l1,Reg.l2,Reg.l3]
  refine' Reg.tk (i := 4) (oi := { dst := some 14, op := Op.move (Operand.tmp 1), type := 23, pos := "kinds.go:93", after := #[{ on := 2, ground := Ground.guard }], guard := some (2, true) }) (v := _) [5, 6, 7, 8, 9, 10, 11, 12, 13, 14, 15, 16, 17, 18] [] (Or.inl ⟨by rfl, Or.inl ?hy26⟩) ?r_26
  case hy26=>(intro w' kk ss; obtain⟨x0,x1,x2,x3,x4⟩:=bx5 (BX.out _ (hr0.trans kk)); have y0:=HC.out _ (ka.out.trans (hr0.trans kk)); go_simp; first | done | with_reducible rfl)
  try simp only[Act.put,Reg.l1,Reg.l2,Reg.l3]
  refine' Reg.tk (i := 5) (oi := { dst := some 15, op := Op.call { callee := Callee.builtin Builtin.len, args := #[Operand.tmp 14], argTypes := #[23] }, type := 3, pos := "kinds.go:93", after := #[{ on := 4, ground := Ground.data }, { on := 2, ground := Ground.guard }], guard := some (2, true) }) (v := _) [6, 7, 8, 9, 10, 11, 12, 13, 14, 15, 16, 17, 18] [] (Or.inl ⟨by rfl, Or.inl ?hy27⟩) ?r_27
  case hy27=>(intro w' kk ss; obtain⟨x0,x1,x2,x3,x4⟩:=bx5 (BX.out _ (hr0.trans kk)); have y0:=HC.out _ (ka.out.trans (hr0.trans kk)); go_simp; first | done | with_reducible rfl)
  try simp only[Act.put,Reg.l1,Reg.l2,Reg.l3]
  refine' Reg.tk (i := 6) (oi := { dst := some 16, op := Op.binOp BinOp.leq 2 (Operand.tmp 13) (Operand.tmp 15) 2, type := 4, pos := "kinds.go:93", after := #[{ on := 3, ground := Ground.data }, { on := 5, ground := Ground.data }, { on := 2, ground := Ground.guard }], guard := some (2, true) }) (v := _) [7, 8, 9, 10, 11, 12, 13, 14, 15, 16, 17, 18] [] (Or.inl ⟨by rfl, Or.inl ?hy28⟩) ?r_28
  case hy28=>(intro w' kk ss; obtain⟨x0,x1,x2,x3,x4⟩:=bx5 (BX.out _ (hr0.trans kk)); have y0:=HC.out _ (ka.out.trans (hr0.trans kk)); go_simp; first | done | with_reducible rfl)
  try simp only[Act.put,Reg.l1,Reg.l2,Reg.l3]
  refine' Reg.tk (i := 7) (oi := { dst := some 17, op := Op.pick (Operand.tmp 12) (Operand.tmp 16) (Operand.const (Value.bool false)), type := 4, pos := "kinds.go:93", after := #[{ on := 2, ground := Ground.data }, { on := 6, ground := Ground.data }], guard := none }) (v := _) [8, 9, 10, 11, 12, 13, 14, 15, 16, 17, 18] [] (Or.inl ⟨by rfl, Or.inl ?hy29⟩) ?r_29
  case hy29=>(intro w' kk ss; obtain⟨x0,x1,x2,x3,x4⟩:=bx5 (BX.out _ (hr0.trans kk)); have y0:=HC.out _ (ka.out.trans (hr0.trans kk)); go_simp; first | done | with_reducible rfl)
  try simp only[Act.put,Reg.l1,Reg.l2,Reg.l3]
  refine' Reg.tk (i := 8) (oi := { dst := some 18, op := Op.move (Operand.tmp 17), type := 4, pos := "kinds.go:93", after := #[{ on := 7, ground := Ground.data }, { on := 2, ground := Ground.chain }], guard := none }) (v := _) [9, 10, 11, 12, 13, 14, 15, 16, 17, 18] [] (Or.inl ⟨by rfl, Or.inl ?hy30⟩) ?r_30
  case hy30=>(intro w' kk ss; obtain⟨x0,x1,x2,x3,x4⟩:=bx5 (BX.out _ (hr0.trans kk)); have y0:=HC.out _ (ka.out.trans (hr0.trans kk)); go_simp; first | done | with_reducible rfl)
  try simp only[Act.put,Reg.l1,Reg.l2,Reg.l3]
  refine' Reg.tk (i := 9) (oi := { dst := some 19, op := Op.move (Operand.tmp 1), type := 23, pos := "kinds.go:93", after := #[{ on := 8, ground := Ground.guard }], guard := some (8, true) }) (v := _) [12, 13, 16, 17, 18] [] (Or.inl ⟨by rfl, Or.inl ?hy31⟩) ?r_31
  case hy31=>(intro w' kk ss; obtain⟨x0,x1,x2,x3,x4⟩:=bx5 (BX.out _ (hr0.trans kk)); have y0:=HC.out _ (ka.out.trans (hr0.trans kk)); go_simp; first | done | with_reducible rfl)
  try simp only[Act.put,Reg.l1,Reg.l2,Reg.l3]
  refine' Reg.tk (i := 10) (oi := { dst := some 20, op := Op.move (Operand.tmp 5), type := 2, pos := "kinds.go:93", after := #[{ on := 8, ground := Ground.guard }], guard := some (8, true) }) (v := _) [11, 12, 13, 16, 17, 18] [] (Or.inl ⟨by rfl, Or.inl ?hy32⟩) ?r_32
  case hy32=>(intro w' kk ss; obtain⟨x0,x1,x2,x3,x4⟩:=bx5 (BX.out _ (hr0.trans kk)); have y0:=HC.out _ (ka.out.trans (hr0.trans kk)); go_simp; first | done | with_reducible rfl)
  try simp only[Act.put,Reg.l1,Reg.l2,Reg.l3]
  refine' Reg.tk (i := 11) (oi := { dst := some 21, op := Op.binOp BinOp.sub 2 (Operand.tmp 20) (Operand.const (Value.int IntKind.i64 1)) 2, type := 2, pos := "kinds.go:93", after := #[{ on := 10, ground := Ground.data }, { on := 8, ground := Ground.guard }], guard := some (8, true) }) (v := _) [12, 13, 16, 17, 18] [] (Or.inl ⟨by rfl, Or.inl ?hy33⟩) ?r_33
  case hy33=>(intro w' kk ss; obtain⟨x0,x1,x2,x3,x4⟩:=bx5 (BX.out _ (hr0.trans kk)); have y0:=HC.out _ (ka.out.trans (hr0.trans kk)); go_simp; first | done | with_reducible rfl)
  try simp only[Act.put,Reg.l1,Reg.l2,Reg.l3]
  refine' Reg.tk (i := 12) (oi := { dst := some 22, op := Op.indexAddr 23 (Operand.tmp 19) (Operand.tmp 21), type := 0, pos := "kinds.go:93", after := #[{ on := 9, ground := Ground.data }, { on := 11, ground := Ground.data }, { on := 8, ground := Ground.guard }], guard := some (8, true) }) (v := _) [13, 16, 17, 18] [] (Or.inl ⟨by rfl, Or.inl ?hy34⟩) ?r_34
  case hy34=>(intro w' kk ss; obtain⟨x0,x1,x2,x3,x4⟩:=bx5 (BX.out _ (hr0.trans kk)); have y0:=HC.out _ (ka.out.trans (hr0.trans kk)); go_simp; first | done | with_reducible rfl)
  try simp only[Act.put,Reg.l1,Reg.l2,Reg.l3]
  refine' Reg.tk (i := 13) (oi := { dst := some 23, op := Op.load 2 (Operand.tmp 22), type := 2, pos := "kinds.go:93", after := #[{ on := 12, ground := Ground.data }, { on := 8, ground := Ground.guard }], guard := some (8, true) }) (v := _) [16, 17, 18] [] (Or.inl ⟨by rfl, Or.inl ?hy35⟩) ?r_35
  case hy35=>(intro w' kk ss; obtain⟨x0,x1,x2,x3,x4⟩:=bx5 (BX.out _ (hr0.trans kk)); have y0:=HC.out _ (ka.out.trans (hr0.trans kk)); go_simp; first | done | with_reducible rfl)
  try simp only[Act.put,Reg.l1,Reg.l2,Reg.l3]
  refine' Reg.tk (i := 14) (oi := { dst := some 24, op := Op.load 73 (Operand.tmp 2), type := 73, pos := "kinds.go:93", after := #[{ on := 8, ground := Ground.guard }], guard := some (8, true) }) (v := _) [15, 16, 17, 18] [] (Or.inl ⟨by rfl, Or.inl ?hy36⟩) ?r_36
  case hy36=>(intro w' kk ss; obtain⟨x0,x1,x2,x3,x4⟩:=bx5 (BX.out _ (hr0.trans kk)); have y0:=HC.out _ (ka.out.trans (hr0.trans kk)); go_simp; first | done | with_reducible rfl)
  try simp only[Act.put,Reg.l1,Reg.l2,Reg.l3]
  refine Reg.tk (i := 15) (oi := { dst := some 25, op := Op.call { callee := Callee.value (Operand.func 112), args := #[Operand.tmp 24], argTypes := #[73] }, type := 2, pos := "kinds.go:93", after := #[{ on := 14, ground := Ground.data }, { on := 8, ground := Ground.chain }, { on := 8, ground := Ground.guard }], guard := some (8, true) }) (v := .int .i64 lv) [16, 17, 18] [] (Or.inl ⟨by rfl, Or.inr ⟨112, #[.agg #[.int .i64 k, .slice X nx xc, .slice Y na yc, .int .i64 c, .slice (some ⟨b, o, none⟩) nv vc]], fun w' kk ss => ⟨?_, ?_⟩⟩⟩) ?_
  · (try dsimp only at ss); go_simp
  · exact LB.out w' (ka.out.trans (hr0.trans kk))
  try simp only[Act.put,Reg.l1,Reg.l2,Reg.l3]
  refine' Reg.tk (i := 16) (oi := { dst := some 26, op := Op.binOp BinOp.eql 2 (Operand.tmp 23) (Operand.tmp 25) 2, type := 4, pos := "kinds.go:93", after := #[{ on := 13, ground := Ground.data }, { on := 15, ground := Ground.data }, { on := 8, ground := Ground.guard }], guard := some (8, true) }) (v := _) [17, 18] [] (Or.inl ⟨by rfl, Or.inl ?hy37⟩) ?r_37
  case hy37=>(intro w' kk ss; obtain⟨x0,x1,x2,x3,x4⟩:=bx5 (BX.out _ (hr0.trans kk)); have y0:=HC.out _ (ka.out.trans (hr0.trans kk)); go_simp; first | done | with_reducible rfl)
  try simp only[Act.put,Reg.l1,Reg.l2,Reg.l3]
  refine' Reg.tk (i := 17) (oi := { dst := some 27, op := Op.pick (Operand.tmp 18) (Operand.tmp 26) (Operand.const (Value.bool false)), type := 4, pos := "kinds.go:93", after := #[{ on := 8, ground := Ground.data }, { on := 16, ground := Ground.data }], guard := none }) (v := _) [18] [] (Or.inl ⟨by rfl, Or.inl ?hy38⟩) ?r_38
  case hy38=>(intro w' kk ss; obtain⟨x0,x1,x2,x3,x4⟩:=bx5 (BX.out _ (hr0.trans kk)); have y0:=HC.out _ (ka.out.trans (hr0.trans kk)); go_simp; first | done | with_reducible rfl)
  try simp only[Act.put,Reg.l1,Reg.l2,Reg.l3]
  refine' Reg.tk (i := 18) (oi := { dst := some 4, op := Op.assign (Operand.tmp 27), type := 4, pos := "kinds.go:93", after := #[{ on := 17, ground := Ground.data }, { on := 15, ground := Ground.chain }, { on := 0, ground := Ground.phase }, { on := 1, ground := Ground.phase }, { on := 2, ground := Ground.phase }, { on := 3, ground := Ground.phase }, { on := 4, ground := Ground.phase }, { on := 5, ground := Ground.phase }, { on := 6, ground := Ground.phase }, { on := 7, ground := Ground.phase }, { on := 8, ground := Ground.phase }, { on := 9, ground := Ground.phase }, { on := 10, ground := Ground.phase }, { on := 11, ground := Ground.phase }, { on := 12, ground := Ground.phase }, { on := 13, ground := Ground.phase }, { on := 14, ground := Ground.phase }, { on := 15, ground := Ground.phase }, { on := 16, ground := Ground.phase }, { on := 17, ground := Ground.phase }], guard := none }) (v := _) [] [] (Or.inl ⟨by rfl, Or.inl ?hy39⟩) ?r_39
  case hy39=>(intro w' kk ss; obtain⟨x0,x1,x2,x3,x4⟩:=bx5 (BX.out _ (hr0.trans kk)); have y0:=HC.out _ (ka.out.trans (hr0.trans kk)); go_simp; first | done | with_reducible rfl)
  try simp only[Act.put,Reg.l1,Reg.l2,Reg.l3]
  refine Reg.wpG_done (by kernel_rfl) (fun we ke se => ?_) _
  refine NoPanic.normal ?_
  have hr0:=hr0.trans ke
  clear ke
  go_wp2
  go_ret
  exact⟨rfl,ka.out.trans hr0⟩
end Go.Proofs.Ytakfabaocgbbmaa.Sn
