/- A page of the landed show: what it holds, and what its builder's calls give back. String of a page's builder.  -/
import Derived.Deep.DeepCutAuto
import Derived.Laws.Externs
import Derived.Lib.AppendStr
import Derived.Lib.Builder
import Derived.Lib.UnsafeStr
import Derived.Lib.Walk
import Derived.Test.YtjmmcnldfkjebaaGreatDoorQaz
set_option maxHeartbeats 4000000
set_option maxRecDepth 100000
namespace Go.Proofs.YtjmmcnldfkjebaaGreatDoor.Pge
open Go.RowKit
set_option linter.unusedVariables false
set_option linter.unusedSimpArgs false
open Dig Lx Tk
def put:Option ByteArray→ByteArray→Option ByteArray
 | none,_=>none
 | some t,s=>if t.size+s.size≤8192 then some (t++s) else none
def Okp (st:Option ByteArray):Prop:=∀ t,st=some t→t.size≤8192
theorem put_none (s:ByteArray):put none s=none:=rfl
theorem put_yes {t s:ByteArray} (h:t.size+s.size≤8192):put (some t) s=some (t++s):=if_pos h
theorem put_no {t s:ByteArray} (h:8192<t.size+s.size):put (some t) s=none:=if_neg (by omega)
theorem put_put (st:Option ByteArray) (a b:ByteArray):put (put st a) b=put st (a++b):=by
 cases st with
 | none=>rfl
 | some t =>
  by_cases h:t.size+a.size≤8192
  · rw[put_yes h]
    by_cases k:t.size+a.size+b.size≤8192
    · rw[put_yes (by rw[ByteArray.size_append]; exact k),put_yes (by rw[ByteArray.size_append]; omega),ByteArray.append_assoc]
    · rw[put_no (by rw[ByteArray.size_append]; omega),put_no (by rw[ByteArray.size_append]; omega)]
  · rw[put_no (by omega),put_no (by rw[ByteArray.size_append]; omega),put_none]
theorem put_nos {st:Option ByteArray} (h:Okp st) {s:ByteArray} (hs:s.size=0):put st s=st:=by
 cases st with
 | none=>rfl
 | some t =>
  have:=h t rfl
  rw[put_yes (by omega)]
  congr 1
  apply L_inj
  rw[L_append,List.length_eq_zero_iff.1 (show (L s).length=0 by rw[L_len]; exact hs),List.append_nil]
def Keeps (T:TypeId) (b:Nat) (w w':World):Prop:=∀ k cs t fr,t≠T→k≠b→w.heap[k]?=some (.cells cs t fr)→w'.heap[k]?=some (.cells cs t fr)
theorem Keeps.refl (T:TypeId) (b:Nat) (w:World):Keeps T b w w:=fun _ _ _ _ _ _ h=>h
theorem Keeps.trans {T:TypeId} {b:Nat} {x y z:World} (h:Keeps T b x y) (k:Keeps T b y z):Keeps T b x z:=fun i cs t fr h1 h2 h3=>k i cs t fr h1 h2 (h i cs t fr h1 h2 h3)
theorem Keeps.set (T:TypeId) (b i:Nat) (w:World) (u:Value):Keeps T b w (w.setCell ⟨b,i,none⟩ u):=fun k cs t fr h1 h2 h3=>by
 rw[Below.heap_setCell _ _ _ _ (by simpa using h2)]; exact h3
theorem Keeps.grown {T:TypeId} {b:Nat} {w w':World} {B:Nat} {v:Value} {n:Nat} {xs:List Value} (h:w.ownsRow B T 1 v n xs) (hg:w.grownBy w' v.ownBlock):Keeps T b w w':=fun k cs t fr h1 h2 h3=>by
 have hk:k<w.heap.size:=by
  apply Decidable.byContradiction; intro hn
  rw[Array.getElem?_eq_none (by omega)] at h3; cases h3
 rw[hg.block k hk (fun e=>Lib.ownBlock_ne h h3 h1 e.symm)]
 exact h3
theorem Keeps.alloc {T:TypeId} {b:Nat} {w w':World} (h:Keeps T b w w') (o:Obj):Keeps T b w (w'.alloc o):=fun k cs t fr h1 h2 h3=>by
 have h4:=h k cs t fr h1 h2 h3
 have hk:k<w'.heap.size:=by
  apply Decidable.byContradiction; intro hn
  rw[Array.getElem?_eq_none (by omega)] at h4; cases h4
 rw[Lib.alloc_old w' o k hk]; exact h4
theorem Keeps.bx {T:TypeId} {b k:Nat} {w w':World} {cs:Array Value} {t:TypeId} (h:Keeps T b w w') (ht:t≠T) (hk:k≠b) (hb:Bx w k cs t):Bx w' k cs t:=h k cs t _ ht hk hb
abbrev bcs (s:ByteArray):List Value:=Lib.byteCells (L s)
theorem bcs_text (s t:ByteArray):bcs s++Lib.strCells t=bcs (s++t):=by
 simp only[bcs,L_append,Lib.byteCells,List.map_append]; rfl
theorem bcs_len (s:ByteArray):(bcs s).length=s.size:=by rw[Lib.byteCells_length,L_len]
theorem info_byte:(Tryz.prog.info? 5).map (fun i=>(i.zero,i.size,i.bytes))=some (some (.int .u8 0),1,1):=by kernel_rfl
theorem size_builder:(Tryz.prog.info? 49).map (·.size)=some 2:=by kernel_rfl
theorem copy_used (b:Nat) (w:World) (h0:w.cell? ⟨b,0,none⟩=some (.pointer (some ⟨b,0,none⟩))) :
 Calls Tryz.prog 35 #[.pointer (some ⟨b,0,none⟩)] w fun e w'=>e = .returned (.tuple #[])∧w'=w:=by
 obtain⟨j,hj,_⟩:=Option.map_eq_some_iff.1 size_builder
 go_enter Tryz.func35,Tryz.ntmps35
 go_wp2
 rw[Lib.run_neq_ptr_same w _ Tryz.underlying46 hj]
 go_wp2
 go_end0
 exact⟨rfl,rfl⟩
def PB (B b:Nat) (p:Value) (f:Bool) (bs:List Value) (w:World):Prop:=
 B≤b∧∃ v,w.heap[b]?=some (.cells #[p,v,.bool f] 51 (0,0))∧w.ownsRow B 5 1 v bs.length bs∧v.ownBlock≠some b
theorem PB.lt {B b:Nat} {p:Value} {f:Bool} {bs:List Value} {w:World} (h:PB B b p f bs w):b<w.heap.size:=by
 obtain⟨_,v,hb,_⟩:=h
 rcases Nat.lt_or_ge b w.heap.size with h' | h'
 · exact h'
 · simp[Array.getElem?_eq_none h'] at hb
theorem PB.cell0 {B b:Nat} {p:Value} {f:Bool} {bs:List Value} {w:World} (h:PB B b p f bs w):w.cell? ⟨b,0,none⟩=some p:=by
 obtain⟨_,v,hb,_⟩:=h
 rw[Lib.cell_of_heap hb]; rfl
theorem PB.cell2 {B b:Nat} {p:Value} {f:Bool} {bs:List Value} {w:World} (h:PB B b p f bs w):w.cell? ⟨b,2,none⟩=some (.bool f):=by
 obtain⟨_,v,hb,_⟩:=h
 rw[Lib.cell_of_heap hb]; rfl
theorem PB.shape {B b:Nat} {p:Value} {f:Bool} {bs:List Value} {w:World} (h:PB B b p f bs w):w.shape? b=some (51,3):=by
 obtain⟨_,v,hb,_⟩:=h
 simp[World.shape?,hb]
theorem PB.frozen {B b:Nat} {p:Value} {f:Bool} {bs:List Value} {w:World} (h:PB B b p f bs w) (i:Nat):w.frozen? ⟨b,i,none⟩=false:=by
 obtain⟨_,v,hb,_⟩:=h
 simp[World.frozen?,hb]
theorem PB.since {B b:Nat} {p:Value} {f:Bool} {bs:List Value} {w w':World} (h:PB B b p f bs w) (k:Since w w'):PB B b p f bs w':=by
 have hl:=h.lt
 obtain⟨h1,v,h2,h3,h4⟩:=h
 exact⟨h1,v,by rw[k.block b hl]; exact h2,owns_since h3 k,h4⟩
theorem nbp:(51:TypeId)≠5:=by decide
theorem PB.set0 {B b:Nat} {p:Value} {f:Bool} {bs:List Value} {w:World} (h:PB B b p f bs w) (q:Value):PB B b q f bs (w.setCell ⟨b,0,none⟩ q):=by
 obtain⟨hB,v,hb,hown,hne⟩:=h
 refine⟨hB,v,?_,?_,hne⟩
 · simp[World.setCell,Array.getElem?_modify,hb]
 · exact hown.kept (row:=some b) ⟨rfl,rfl,rfl,by simp[World.setCell],fun k _ hk=>Below.heap_setCell _ _ _ _ (fun e=>hk (by simp[e]))⟩ (Or.inr hne)
theorem PB.set2 {B b:Nat} {p:Value} {f:Bool} {bs:List Value} {w:World} (h:PB B b p f bs w) (g:Bool):PB B b p g bs (w.setCell ⟨b,2,none⟩ (.bool g)):=by
 obtain⟨hB,v,hb,hown,hne⟩:=h
 refine⟨hB,v,?_,?_,hne⟩
 · simp[World.setCell,Array.getElem?_modify,hb]
 · exact hown.kept (row:=some b) ⟨rfl,rfl,rfl,by simp[World.setCell],fun k _ hk=>Below.heap_setCell _ _ _ _ (fun e=>hk (by simp[e]))⟩ (Or.inr hne)
theorem PB.put {B b:Nat} {p v v':Value} {f:Bool} {bs':List Value} {w:World} (hB:B≤b) (hb:w.heap[b]?=some (.cells #[p,v,.bool f] 51 (0,0))) (hown:w.ownsRow B 5 1 v' bs'.length bs') :
 PB B b p f bs' (w.setCell ⟨b,1,none⟩ v'):=by
 have hne:=Lib.ownBlock_ne hown hb nbp
 refine⟨hB,v',?_,?_,hne⟩
 · simp[World.setCell,Array.getElem?_modify,hb]
 · exact hown.kept (row:=some b) ⟨rfl,rfl,rfl,by simp[World.setCell],fun k _ hk=>Below.heap_setCell _ _ _ _ (fun e=>hk (by simp[e]))⟩ (Or.inr hne)
theorem lies_page:liesAt Tryz.prog Tryz.prog.depth 51 (3 / Tryz.prog.cellsOf 51) 0 49 1=true:=by kernel_rfl
theorem copy_fresh (b:Nat) (w:World) (h0:w.cell? ⟨b,0,none⟩=some (.pointer none)) (hsh:w.shape? b=some (51,3)) (hfz:w.frozen? ⟨b,0,none⟩=false) :
 Calls Tryz.prog 35 #[.pointer (some ⟨b,0,none⟩)] w fun e w'=>e = .returned (.tuple #[])∧w'=w.setCell ⟨b,0,none⟩ (.pointer (some ⟨b,0,none⟩)):=by
 obtain⟨j,hj,hjs⟩:=Option.map_eq_some_iff.1 size_builder
 go_enter Tryz.func35,Tryz.ntmps35
 go_wp2
 rw[Lib.run_to_unsafe w ⟨b,0,none⟩ Tryz.underlying46 Tryz.underlying120 hj (by rw[hjs]; decide) hsh (show (0:Nat)<3 from by decide)]
 simp only[Result.andThen]
 rw[Oper.upon_value]
 go_wp2
 rw[run_callFunc_extern Tryz.func66 (by kernel_rfl) (by kernel_rfl) (by kernel_rfl) (e:=Extern.AbiNoEscape.same) (by kernel_rfl)]
 rw[Lib.run_noEscape]
 simp only[Result.andThen]
 rw[Oper.upon_value]
 go_wp2
 rw[Lib.run_from_unsafe w ⟨b,0,none⟩ Tryz.underlying120 Tryz.underlying46 hj hsh lies_page]
 simp only[Result.andThen]
 rw[Oper.upon_value]
 go_wp2
 go_end0
 exact⟨rfl,rfl⟩
def IsP (B b:Nat) (f:Bool) (bs:List Value) (w:World):Prop:=PB B b (.pointer none) f bs w∨PB B b (.pointer (some ⟨b,0,none⟩)) f bs w
theorem IsP.since {B b:Nat} {f:Bool} {bs:List Value} {w w':World} (h:IsP B b f bs w) (k:Since w w'):IsP B b f bs w':=h.imp (fun h=>h.since k) (fun h=>h.since k)
theorem IsP.lt {B b:Nat} {f:Bool} {bs:List Value} {w:World} (h:IsP B b f bs w):b<w.heap.size:=h.elim PB.lt PB.lt
theorem IsP.any {B b:Nat} {f:Bool} {bs:List Value} {w:World} (h:IsP B b f bs w):∃ p,PB B b p f bs w:=h.elim (fun h=>⟨_,h⟩) (fun h=>⟨_,h⟩)
theorem IsP.set2 {B b:Nat} {f:Bool} {bs:List Value} {w:World} (h:IsP B b f bs w) (g:Bool):IsP B b g bs (w.setCell ⟨b,2,none⟩ (.bool g)):=h.imp (fun h=>h.set2 g) (fun h=>h.set2 g)
theorem copy_any (B b:Nat) (f:Bool) (bs:List Value) (w:World) (h:IsP B b f bs w) :
 Calls Tryz.prog 35 #[.pointer (some ⟨b,0,none⟩)] w fun e w'=>e = .returned (.tuple #[])∧PB B b (.pointer (some ⟨b,0,none⟩)) f bs w'∧Below B w w'∧Keeps 5 b w w':=by
 rcases h with h | h
 · refine (copy_fresh b w h.cell0 h.shape (h.frozen 0)).mono ?_
   rintro e w' ⟨rfl,rfl⟩
   exact⟨rfl,h.set0 _,(Below.refl B w).setCell (p:=⟨b,0,none⟩) h.1 _,Keeps.set _ _ _ _ _⟩
 · refine (copy_used b w h.cell0).mono ?_
   rintro e w' ⟨rfl,rfl⟩
   exact⟨rfl,h,Below.refl B _,Keeps.refl _ _ _⟩
theorem writeString_any (B b:Nat) (f:Bool) (bs:List Value) (s:ByteArray) (w:World) (h:IsP B b f bs w) (hlen:bs.length+s.size≤140737488355328) (hBw:B≤w.heap.size) :
 Calls Tryz.prog 21 #[.pointer (some ⟨b,0,none⟩),.string s] w fun e w'=>e = .returned (.tuple #[.int .i64 s.size,.nilIface])∧PB B b (.pointer (some ⟨b,0,none⟩)) f (bs++Lib.strCells s) w'∧Below B w w'∧Keeps 5 b w w':=by
 obtain⟨i0,hi,hz0,hz1,hz2⟩:=info_parts info_byte
 have HC:=lH (fun W (h:IsP B b f bs W)=>copy_any B b f bs W h)
 have HB:=lH h
 clear h
 go_enter Tryz.func21,Tryz.ntmps21
 go_wp2_with (go_at_call 35; (with_reducible refine (HC.out _ HB.out).mono ?_))
 rintro e w1 ⟨rfl,h1,hb1,hk1⟩
 obtain⟨hB,v,hbk,hown,hne⟩:=h1
 have c0:w1.cell? ⟨b,0,none⟩=some (.pointer (some ⟨b,0,none⟩)):=by rw[Lib.cell_of_heap hbk]; rfl
 have c1:w1.cell? ⟨b,1,none⟩=some v:=by rw[Lib.cell_of_heap hbk]; rfl
 go_wp2_with (at_builtin; refine Lib.wpList_append_own_string _ rfl _ _ 47 9 rfl B 5 i0 Tryz.underlying47 Tryz.underlying9 hi hz0 hz1 hz2 _ _ _ rfl hown s rfl ?c3 ?c4 ?c5 ?_)
 case c3=>unfold maxLen; omega
 case c4=>omega
 case c5=>have:=hb1.size; omega
 intro v' w2 hown' hgrow _
 have hlt:b<w1.heap.size:=by
  rcases Nat.lt_or_ge b w1.heap.size with h' | h'
  · exact h'
  · simp[Array.getElem?_eq_none h'] at hbk
 have hb2:w2.heap[b]?=some (.cells #[.pointer (some ⟨b,0,none⟩),v,.bool f] 51 (0,0)):=by
  rw[hgrow.block b hlt (fun e=>hne e.symm)]
  exact hbk
 have hk2:Keeps 5 b w w2:=hk1.trans (Keeps.grown hown hgrow)
 have d0:w2.cell? ⟨b,0,none⟩=some (.pointer (some ⟨b,0,none⟩)):=by rw[Lib.cell_of_heap hb2]; rfl
 have d1:w2.cell? ⟨b,1,none⟩=some v:=by rw[Lib.cell_of_heap hb2]; rfl
 have f1:w2.frozen? ⟨b,1,none⟩=false:=Lib.frozen_of_heap hb2 1
 obtain⟨ao,n',cap,rfl⟩:∃ ao n' cap,v' = .slice ao n' cap:=by
  rcases hown'.2 with ⟨hv,_⟩ | ⟨g,cap,cur,hv,_⟩
  · exact⟨_,_,_,hv⟩
  · exact⟨_,_,_,hv⟩
 go_wp2
 go_ret2
 refine⟨rfl,?_,?_,?_⟩
 · exact PB.put hB hb2 (bs':=bs++Lib.strCells s) (by simpa [Lib.strCells_length] using hown')
 · exact (hb1.grown hgrow (by have:=hb1.size; omega) (fun k hk=>(hown.lt k hk).1)).setCell (p:=⟨b,1,none⟩) hB _
 · exact hk2.trans (Keeps.set _ _ _ _ _)
theorem len_any (B b:Nat) (f:Bool) (bs:List Value) (w:World) (h:IsP B b f bs w) :
 Calls Tryz.prog 20 #[.pointer (some ⟨b,0,none⟩)] w fun e w'=>e = .returned (.int .i64 (bs.length:Nat))∧w'=w:=by
 obtain⟨p,hB,v,hbk,hown,hne⟩:=h.any
 obtain⟨ao,cap,rfl⟩:∃ ao cap,v = .slice ao bs.length cap:=by
  rcases hown.2 with ⟨hv,h0⟩ | ⟨g,cap,cur,hv,_⟩
  · exact⟨none,0,by rw[hv,h0]⟩
  · exact⟨_,_,hv⟩
 have c1:w.cell? ⟨b,1,none⟩=some (.slice ao bs.length cap):=by rw[Lib.cell_of_heap hbk]; rfl
 go_enter Tryz.func20,Tryz.ntmps20
 go_wp2
 go_ret
 exact⟨rfl,rfl⟩
end Go.Proofs.YtjmmcnldfkjebaaGreatDoor.Pge
namespace Go.Proofs.YtjmmcnldfkjebaaGreatDoor.Pge
open Go.RowKit
set_option linter.unusedVariables false
set_option linter.unusedSimpArgs false
open Dig Lx Tk
theorem cells_byte : Tryz.prog.cellsOf 5=1:=by kernel_rfl
theorem us_none (W:World) (q:Option Addr):(Builtin.unsafeString_ #[73,3] 9 #[.pointer q,.int .i64 0]).run Tryz.prog W = .ok (.string .empty) W:=Lib.run_unsafeString_none W _ _ _ q
theorem string_some (B b:Nat) (f:Bool) (l:List UInt8) (w:World) (h:IsP B b f (Lib.byteCells l) w) (h0:l ≠ []) :
 Calls Tryz.prog 12 #[.pointer (some ⟨b,0,none⟩)] w fun e w'=>e = .returned (.string ⟨l.toArray⟩)∧Below B w w':=by
 obtain⟨p,hB,v,hbk,hown,hne⟩:=h.any
 have hl0:l.length≠0:=by simpa using h0
 rw[Lib.byteCells_length] at hown
 obtain⟨g,cap,cur,rfl,hbg,hg,hnc,hcm,hcs,htake⟩:∃ g cap cur,v = .slice (some ⟨g,0,none⟩) l.length cap∧B≤g∧w.heap[g]?=some (.cells cur 5 (0,0))∧l.length≤cap∧cap≤maxLen∧cur.size=cap*1∧cur.toList.take (l.length*1)=Lib.byteCells l:=by
  rcases hown.2 with ⟨_,hz⟩ | ⟨g,cap,cur,hv,r⟩
  · exact absurd hz hl0
  · exact⟨g,cap,cur,hv,r⟩
 have c1:w.drew.cell? ⟨b,1,none⟩=some (.slice (some ⟨g,0,none⟩) l.length cap):=by
  have:w.drew.heap[b]?=some (.cells #[p,.slice (some ⟨g,0,none⟩) l.length cap,.bool f] 51 (0,0)):=hbk
  rw[Lib.cell_of_heap this]; rfl
 have hSD:(Builtin.unsafeSliceData_ #[47] 73 #[.slice (some ⟨g,0,none⟩) l.length cap]).run Tryz.prog w.drew = .ok (.pointer (some ⟨g,0,none⟩)) w.drew:=
  Lib.run_unsafeSliceData_row _ _ _ _ _ _ (by omega)
 have hUS:(Builtin.unsafeString_ #[73,3] 9 #[.pointer (some ⟨g,0,none⟩),.int .i64 l.length]).run Tryz.prog w.drew = .ok (.string ⟨l.toArray⟩) (w.drew.freeze ⟨g,0,none⟩ l.length):=by
  refine Lib.run_unsafeString_row w.drew 73 3 9 5 Tryz.underlying73 cells_byte g cur.size (by have hg':w.drew.heap[g]?=some (.cells cur 5 (0,0)):=hg; simp[World.shape?,hg']) l h0 (by omega) (by unfold maxLen at hcm; omega) ?_
  intro j x hx
  have:=hown.cells (g:=g) rfl j (.int .u8 x.toNat) (by simp[Lib.byteCells,hx])
  exact this
 go_enter Tryz.func12,Tryz.ntmps12
 go_wp2
 go_region
 all_goals (go_wp2; go_ret; exact⟨rfl,Lib.below_freeze (Below.drew (Below.refl B w)) (p:=⟨g,0,none⟩) hbg _⟩)
theorem string_nil (B b:Nat) (f:Bool) (p:Value) (w:World) (hbk:w.heap[b]?=some (.cells #[p,.slice none 0 0,.bool f] 51 (0,0))) :
 Calls Tryz.prog 12 #[.pointer (some ⟨b,0,none⟩)] w fun e w'=>e = .returned (.string ⟨#[]⟩)∧Below B w w':=by
 have hUS:=us_none
 have c1:w.drew.cell? ⟨b,1,none⟩=some (.slice none 0 0):=by
  have:w.drew.heap[b]?=some (.cells #[p,.slice none 0 0,.bool f] 51 (0,0)):=hbk
  rw[Lib.cell_of_heap this]; rfl
 have hSD:(Builtin.unsafeSliceData_ #[47] 73 #[.slice none 0 0]).run Tryz.prog w.drew = .ok (.pointer none) w.drew:=rfl
 go_enter Tryz.func12,Tryz.ntmps12
 go_wp2
 go_region
 all_goals (go_wp2; go_ret; exact⟨rfl,Below.drew (Below.refl B w)⟩)
theorem string_noroom (B b g:Nat) (f:Bool) (p:Value) (cur:Array Value) (w:World) (hBw:B≤w.heap.size) (hbk:w.heap[b]?=some (.cells #[p,.slice (some ⟨g,0,none⟩) 0 0,.bool f] 51 (0,0))) (hg:w.heap[g]?=some (.cells cur 5 (0,0))) :
 Calls Tryz.prog 12 #[.pointer (some ⟨b,0,none⟩)] w fun e w'=>e = .returned (.string ⟨#[]⟩)∧Below B w w':=by
 have hUS:=us_none
 have hlt:b<w.heap.size:=by
  rcases Nat.lt_or_ge b w.heap.size with h' | h'
  · exact h'
  · simp[Array.getElem?_eq_none h'] at hbk
 have c1:w.drew.cell? ⟨b,1,none⟩=some (.slice (some ⟨g,0,none⟩) 0 0):=by
  have:w.drew.heap[b]?=some (.cells #[p,.slice (some ⟨g,0,none⟩) 0 0,.bool f] 51 (0,0)):=hbk
  rw[Lib.cell_of_heap this]; rfl
 have hSD:(Builtin.unsafeSliceData_ #[47] 73 #[.slice (some ⟨g,0,none⟩) 0 0]).run Tryz.prog w.drew = .ok (.pointer (some ⟨w.drew.heap.size,0,none⟩)) (w.drew.alloc (.view ⟨g,0,none⟩ 5)):=
  Lib.run_unsafeSliceData_zero w.drew _ _ 5 Tryz.underlying73 ⟨g,0,none⟩ 0 (5,cur.size) (by have hg':w.drew.heap[g]?=some (.cells cur 5 (0,0)):=hg; simp[World.shape?,hg'])
 have c2:(w.drew.alloc (.view ⟨g,0,none⟩ 5)).cell? ⟨b,1,none⟩=some (.slice (some ⟨g,0,none⟩) 0 0):=by
  have:(w.drew.alloc (.view ⟨g,0,none⟩ 5)).heap[b]?=_:=(Lib.alloc_old w.drew _ b hlt).trans hbk
  rw[Lib.cell_of_heap this]; rfl
 have c3:(w.alloc (.view ⟨g,0,none⟩ 5)).drew.cell? ⟨b,1,none⟩=some (.slice (some ⟨g,0,none⟩) 0 0):=c2
 have c0:w.cell? ⟨b,1,none⟩=some (.slice (some ⟨g,0,none⟩) 0 0):=c1
 go_enter Tryz.func12,Tryz.ntmps12
 go_wp2
 go_region
 all_goals (go_wp2; go_ret; exact⟨rfl,(Below.drew (Below.refl B w)).alloc hBw _⟩)
theorem string_room (B b g cap:Nat) (f:Bool) (p:Value) (w:World) (hc0:cap≠0) (hbk:w.heap[b]?=some (.cells #[p,.slice (some ⟨g,0,none⟩) 0 cap,.bool f] 51 (0,0))) :
 Calls Tryz.prog 12 #[.pointer (some ⟨b,0,none⟩)] w fun e w'=>e = .returned (.string ⟨#[]⟩)∧Below B w w':=by
 have hUS:=us_none
 have c1:w.drew.cell? ⟨b,1,none⟩=some (.slice (some ⟨g,0,none⟩) 0 cap):=by
  have:w.drew.heap[b]?=some (.cells #[p,.slice (some ⟨g,0,none⟩) 0 cap,.bool f] 51 (0,0)):=hbk
  rw[Lib.cell_of_heap this]; rfl
 have hSD:(Builtin.unsafeSliceData_ #[47] 73 #[.slice (some ⟨g,0,none⟩) 0 cap]).run Tryz.prog w.drew = .ok (.pointer (some ⟨g,0,none⟩)) w.drew:=
  Lib.run_unsafeSliceData_row _ _ _ _ _ _ hc0
 clear hc0
 go_enter Tryz.func12,Tryz.ntmps12
 go_wp2
 go_region
 all_goals (go_wp2; go_ret; exact⟨rfl,Below.drew (Below.refl B w)⟩)
theorem string_cells (B b:Nat) (f:Bool) (l:List UInt8) (w:World) (h:IsP B b f (Lib.byteCells l) w) (hBw:B≤w.heap.size) :
 Calls Tryz.prog 12 #[.pointer (some ⟨b,0,none⟩)] w fun e w'=>e = .returned (.string ⟨l.toArray⟩)∧Below B w w':=by
 cases l with
 | cons x r=>exact string_some B b f (x :: r) w h (by simp)
 | nil =>
  obtain⟨p,hB,v,hbk,hown,hne⟩:=h.any
  rcases hown.2 with ⟨rfl,_⟩ | ⟨g,cap,cur,rfl,hbg,hg,_,_,_,_⟩
  · exact string_nil B b f p w hbk
  · by_cases hc0:cap=0
    · subst hc0
      exact string_noroom B b g f p cur w hBw hbk hg
    · exact string_room B b g cap f p w hc0 hbk
def Pg (B b:Nat) (st:Option ByteArray) (w:World):Prop:=∃ (t:ByteArray) (f:Bool),IsP B b f (bcs t) w∧t.size≤8192∧st=if f=true then none else some t
theorem Pg.okp {B b:Nat} {st:Option ByteArray} {w:World} (h:Pg B b st w):Okp st:=by
 obtain⟨t,f,-,ht,rfl⟩:=h
 cases f
 · rintro u e; injection e with e; rw[← e]; exact ht
 · rintro u e; cases e
theorem Pg.since {B b:Nat} {st:Option ByteArray} {w w':World} (h:Pg B b st w) (k:Since w w'):Pg B b st w':=by
 obtain⟨t,f,h1,h2⟩:=h
 exact⟨t,f,h1.since k,h2⟩
theorem Pg.lt {B b:Nat} {st:Option ByteArray} {w:World} (h:Pg B b st w):b<w.heap.size:=by
 obtain⟨t,f,h1,h2⟩:=h
 exact h1.lt
theorem Pg.fresh (w:World):Pg w.heap.size w.heap.size (some ⟨#[]⟩) (w.alloc (.cells #[.pointer none,.slice none 0 0,.bool false] 51)):=
 ⟨⟨#[]⟩,false,.inl ⟨Nat.le_refl _,.slice none 0 0,heap_alloc_new w _,World.ownsRow_nil _ _ _ _,by simp[Value.ownBlock]⟩,by decide,rfl⟩
theorem string_any (B b:Nat) (t:ByteArray) (w:World) (h:Pg B b (some t) w) (hBw:B≤w.heap.size) :
 Calls Tryz.prog 12 #[.pointer (some ⟨b,0,none⟩)] w fun e w'=>e = .returned (.string t)∧Below B w w':=by
 obtain⟨u,f,h1,h2,h3⟩:=h
 cases f with
 | true=>cases h3
 | false =>
  injection h3 with h3
  subst h3
  refine (string_cells B b false (L t) w h1 hBw).mono ?_
  rintro e w' ⟨rfl,hb⟩
  exact⟨by rw[show (⟨(L t).toArray⟩:ByteArray)=t from L_inj rfl],hb⟩
theorem full_cell {B b:Nat} {st:Option ByteArray} {w:World} (h:Pg B b st w):w.cell? ⟨b,2,none⟩=some (.bool st.isNone):=by
 obtain⟨t,f,h1,h2,h3⟩:=h
 obtain⟨p,h1⟩:=h1.any
 rw[h1.cell2,h3]
 cases f <;> rfl
end Go.Proofs.YtjmmcnldfkjebaaGreatDoor.Pge
namespace Go.Proofs.YtjmmcnldfkjebaaGreatDoor.Pge
open Go.RowKit
set_option linter.unusedVariables false
set_option linter.unusedSimpArgs false
open Dig Lx Tk
def cat:List ByteArray→ByteArray
 | []=>⟨#[]⟩
 | s :: r=>s++cat r
theorem cat_append:∀ a b:List ByteArray,cat (a++b)=cat a++cat b
 | [],b=>by
  apply L_inj
  rw[L_append]; rfl
 | s :: r,b=>by
  show s++cat (r++b)=s++cat r++cat b
  rw[cat_append r b,ByteArray.append_assoc]
theorem cat_one (s:ByteArray):cat [s]=s:=by
 apply L_inj
 show L (s++⟨#[]⟩)=L s
 rw[L_append,show L ⟨#[]⟩ = [] from rfl,List.append_nil]
theorem take_cat {ss:List ByteArray} {k:Nat} (h:k<ss.length):cat (ss.take (k+1))=cat (ss.take k)++ss[k]:=by
 rw[List.take_succ_eq_append_getElem h,cat_append,cat_one]
theorem cat_split (ss:List ByteArray) (k:Nat):cat ss=cat (ss.take k)++cat (ss.drop k):=by rw[← cat_append,List.take_append_drop]
def RetW (B b:Nat) (st:Option ByteArray) (w:World) (e:Ending) (w':World):Prop:=e = .returned (.tuple #[])∧Pg B b st w'∧Below B w w'∧Keeps 5 b w w'
theorem len_at {B b:Nat} {f:Bool} {t:ByteArray} {w:World} (h:IsP B b f (bcs t) w) :
 Calls Tryz.prog 20 #[.pointer (some ⟨b,0,none⟩)] w fun e w'=>e = .returned (.int .i64 (t.size:Nat))∧w'=w:=by
 refine (len_any B b f _ w h).mono ?_
 rintro e w' ⟨rfl,h⟩
 rw[bcs_len]
 exact⟨rfl,h⟩
theorem full_none {st:Option ByteArray} {ss:List ByteArray} {k:Nat} (h:put st (cat (ss.take k))=none):put st (cat ss)=none:=by
 rw[cat_split ss k,← put_put,h]; rfl
theorem write_any (B b:Nat) (st:Option ByteArray) (g m:Nat) (ss:List ByteArray) (T:TypeId) (w:World) (h:Pg B b st w) (hs:Bx w g (ss.map Value.string).toArray T) (hT:T≠5) (hg:g≠b) (hm:ss.length=m) (hm2:m≤100) (hB:B≤w.heap.size) :
 Calls Tryz.prog 11 #[.pointer (some ⟨b,0,none⟩),.slice (some ⟨g,0,none⟩) m m] w (RetW B b (put st (cat ss)) w):=by
 have HM:=lH hm
 have HS:=lH hs
 have HP:=lH h
 have HT:=lH hT
 clear hm hs h hT
 go_enter Tryz.func11,Tryz.ntmps11
 go_wp2
 go_loopw [8] (fun i wr=>∃ k:Nat,i = .int .i64 (k:Int)∧k≤m∧Hid (Pg B b (put st (cat (ss.take k))) wr)∧Hid (Below B w wr)∧Hid (Keeps 5 b w wr)) (fun i _=>m - (intOf i).toNat)
 case atStart=>exact⟨0,rfl,Nat.zero_le _,by rw[List.take_zero,put_nos HP.out.okp rfl]; exact HP.out,Below.refl _ _,Keeps.refl _ _ _⟩
 case round =>
  clear HP
  obtain⟨k,rfl,hk,HP,HW,HK⟩:=hrel
  by_cases hlt:k<m
  · have hkl:k<ss.length:=by have:=HM.out; omega
    have hc:=(HK.out.bx HT.out hg HS.out).cell k
    have e0:((ss.map Value.string).toArray)[k]?=some (.string ss[k]):=by simp[hkl]
    rw[e0] at hc
    have hst:=take_cat hkl
    obtain⟨t,f,hp,ht,he⟩:=HP.out
    generalize ss[k]=s at *
    have hlt2:=hp.lt
    have hcell:=full_cell HP.out
    have HL:=lH (len_at hp)
    have hBr:B≤wr.heap.size:=Nat.le_of_lt (Nat.lt_of_le_of_lt (hp.any.elim fun _ h=>h.1) hlt2)
    obtain⟨p0,hpp⟩:=hp.any
    have hc2:=hpp.cell2
    have hf2:=hpp.frozen 2
    have HF:=lH hp
    have HST:=lH hst
    have HE:=lH he
    clear hpp hp hst he hcell e0
    have HTT:=lH ht
    by_cases hbig:8192<t.size+s.size
    · have hz:decide ((8192:Int) - (t.size:Int)<(s.size:Int))=true:=by rw[decide_eq_true_iff]; omega
      have hnone:put st (cat ss)=none:=full_none (k:=k+1) (by
       rw[HST.out,← put_put,HE.out]
       cases f
       · exact put_no hbig
       · rfl)
      have HN:=lH hnone
      have HB2:=lH (HF.out.any.elim fun _ h=>h.1)
      clear hnone
      go_wp2_with (go_at_call 20; (with_reducible refine HL.out.mono ?_); rintro e w1 ⟨rfl,rfl⟩)
      go_end0
      refine⟨rfl,?_,HW.out.setCell (p:=⟨b,2,none⟩) HB2.out _,HK.out.trans (Keeps.set _ _ _ _ _)⟩
      rw[HN.out]
      exact⟨t,true,HF.out.set2 true,HTT.out,rfl⟩
    · have hz:decide ((8192:Int) - (t.size:Int)<(s.size:Int))=false:=by rw[decide_eq_false_iff_not]; omega
      cases f with
      | true =>
       have hnone:put st (cat ss)=none:=full_none (k:=k) HE.out
       have HN:=lH hnone
       clear hnone
       go_wp2_with (go_at_call 20; (with_reducible refine HL.out.mono ?_); rintro e w1 ⟨rfl,rfl⟩)
       go_end0
       refine⟨rfl,?_,HW.out,HK.out⟩
       rw[HN.out]
       exact⟨t,true,HF.out,HTT.out,rfl⟩
      | false =>
       have hyes:put st (cat (ss.take (k+1)))=some (t++s):=by
        rw[HST.out,← put_put,HE.out]
        exact put_yes (by omega)
       have HY:=lH hyes
       have hsz:t.size+s.size≤8192:=by omega
       have HSZ:=lH hsz
       have WS:=lH (fun (_:Unit)=>writeString_any B b false (bcs t) s wr HF.out (by rw[bcs_len]; omega) hBr)
       clear hyes hsz
       go_wp2_with (first
        | (go_at_call 20; (with_reducible refine HL.out.mono ?_); rintro e w1 ⟨rfl,rfl⟩)
        | (go_at_call 21; (with_reducible refine (WS.out ()).mono ?_); rintro e w2 ⟨rfl,hp2,hb2,hk2⟩))
       go_roundw
       case rel =>
        refine⟨k+1,by go_num,by omega,?_,HW.out.trans hb2,HK.out.trans hk2⟩
        rw[HY.out]
        exact⟨t++s,false,.inr (by rw[bcs_text] at hp2; exact hp2),by rw[ByteArray.size_append]; exact HSZ.out,rfl⟩
       case measure=>simp[intOf]; omega
  · obtain rfl:k=m:=by omega
    have e:ss.take k=ss:=List.take_of_length_le (by have:=HM.out; omega)
    rw[e] at HP
    clear e
    go_wp2
    go_end0
    exact⟨rfl,HP.out,HW.out,HK.out⟩
end Go.Proofs.YtjmmcnldfkjebaaGreatDoor.Pge
namespace Go.Proofs.YtjmmcnldfkjebaaGreatDoor.Pge
set_option linter.unusedVariables false
set_option linter.unusedSimpArgs false
open Dig Lx Tk Ps Sh
open Go.Lib (itoa)
def sepW (i:Nat):ByteArray:=if i=0 then ⟨#[]⟩ else ⟨#[44,32]⟩
def rowB {α:Type} (f:α→ByteArray):Nat→List α→ByteArray
 | _,[]=>⟨#[]⟩
 | i,x :: r=>sepW i++f x++rowB f (i+1) r
theorem nos_add (s:ByteArray):(⟨#[]⟩:ByteArray)++s=s:=L_inj (by rw[L_append]; rfl)
theorem add_nos (s:ByteArray):s++(⟨#[]⟩:ByteArray)=s:=L_inj (by rw[L_append,show L ⟨#[]⟩ = [] from rfl,List.append_nil])
theorem rowB_snoc {α:Type} (f:α→ByteArray) (x:α):∀ (l:List α) (i:Nat),rowB f i (l ++ [x])=rowB f i l++(sepW (i+l.length)++f x)
 | [],i=>by
  show sepW i++f x++⟨#[]⟩=⟨#[]⟩++_
  rw[add_nos,nos_add]; rfl
 | y :: r,i=>by
  show sepW i++f y++rowB f (i+1) (r ++ [x])=sepW i++f y++rowB f (i+1) r++_
  rw[rowB_snoc f x r (i+1),ByteArray.append_assoc (a:=sepW i++f y),List.length_cons,show i+1+r.length=i+(r.length+1) by omega]
theorem rowB_take {α:Type} (f:α→ByteArray) {l:List α} {k:Nat} (h:k<l.length):rowB f 0 (l.take (k+1))=rowB f 0 (l.take k)++(sepW k++f l[k]):=by
 rw[List.take_succ_eq_append_getElem h,rowB_snoc,List.length_take,Nat.zero_add,Nat.min_eq_left (Nat.le_of_lt h)]
def itoaB (n:Int):ByteArray:=⟨(itoa n).toArray⟩
def truthB (n:Int):ByteArray:=if n=1 then ⟨#[116,114,117,101]⟩ else ⟨#[102,97,108,115,101]⟩
def exprW (k n:Int) (s l:ByteArray):ByteArray:=if k=1 then itoaB n else if k=2 then truthB n else if k=3 then s else if k=4 then ⟨#[91]⟩++l++⟨#[93]⟩ else ⟨#[]⟩
def pqB (p:Pq):ByteArray:=exprW p.k p.n p.s ⟨#[]⟩
def xqB (x:Xq):ByteArray:=exprW x.k x.n x.s (rowB pqB 0 x.l)
def kindB (b:Bool):ByteArray:=if b=true then ⟨#[98,111,111,108]⟩ else ⟨#[105,110,116]⟩
def domB (d:List (Int × Int)):ByteArray:=
 match d with
 | [z]=>itoaB z.1++⟨#[46,46]⟩++itoaB z.2
 | d=>⟨#[123]⟩++rowB (fun z=>itoaB z.1) 0 d++⟨#[125]⟩
def spanB (m:Int):ByteArray:=⟨#[91,49,46,46]⟩++itoaB m++⟨#[93]⟩
def varB (x:Iq):ByteArray:=
 ⟨#[118,97,114,32]⟩++(if x.bool=true then ⟨#[98,111,111,108]⟩ else domB x.dom)++(⟨#[58,32]⟩++x.name)++(if x.out=true then ⟨#[32,58,58,32,111,117,116,112,117,116,95,118,97,114]⟩ else ⟨#[]⟩) ++
  (if x.vals = [] then ⟨#[]⟩ else ⟨#[32,61,32]⟩++rowB xqB 0 x.vals)
def arrB (x:Iq) (v:ByteArray):ByteArray:=
 (⟨#[97,114,114,97,121,32]⟩++(spanB x.size++(⟨#[32,111,102,32]⟩++(v++(kindB x.bool++(⟨#[58,32]⟩++x.name)))))) ++
  (if x.out=true then ⟨#[32,58,58,32,111,117,116,112,117,116,95,97,114,114,97,121,40]⟩++(spanB x.size++⟨#[41]⟩) else ⟨#[]⟩)++⟨#[32,61,32,91]⟩++rowB xqB 0 x.vals++⟨#[93]⟩
def askB (x:Iq):ByteArray:=
 ⟨#[115,111,108,118,101,32]⟩++(if x.ask=0 then ⟨#[115,97,116,105,115,102,121]⟩ else if x.ask=1 then ⟨#[109,105,110,105,109,105,122,101,32]⟩++x.name else if x.ask=2 then ⟨#[109,97,120,105,109,105,122,101,32]⟩++x.name else ⟨#[]⟩)
def bodyB (x:Iq):ByteArray:=
 if x.kind=1 then kindB x.bool++(⟨#[58,32]⟩++(x.name++⟨#[32,61,32]⟩))++rowB xqB 0 x.vals
 else if x.kind=2 then varB x else if x.kind=3 then arrB x ⟨#[]⟩ else if x.kind=4 then arrB x ⟨#[118,97,114,32]⟩
 else if x.kind=5 then ⟨#[99,111,110,115,116,114,97,105,110,116,32]⟩++(x.name++⟨#[40]⟩)++rowB xqB 0 x.vals++⟨#[41]⟩
 else if x.kind=6 then askB x else ⟨#[]⟩
def itB (x:Iq):ByteArray:=bodyB x++⟨#[59]⟩
/-! a valid item's -/
theorem flat_row {α:Type} (f:α→ByteArray) (g:α→Pcs):∀ (l:List α),(∀ x ∈ l,flat (g x)=L (f x))→flat (seps (l.map g))=L (rowB f 0 l)∧(l ≠ []→∀ i,0<i→([44]:Bs)++sp++flat (seps (l.map g))=L (rowB f i l))
 | [],_=>⟨rfl,fun h=>absurd rfl h⟩
 | x :: r,h=>by
  have hx:=h x (by simp)
  have ih:=flat_row f g r (fun y hy=>h y (by simp[hy]))
  have key:flat (seps ((x :: r).map g))=L (f x)++L (rowB f 1 r):=by
   cases r with
   | nil =>
    show flat (g x)=L (f x) ++ []
    rw[hx,List.append_nil]
   | cons y r =>
    rw[List.map_cons,seps_cons _ _ (by simp),flat_append,hx,← ih.2 (by simp) 1 (by decide)]
    simp[flat,sp]
  have shift:∀ i j,0<i→0<j→L (rowB f i r)=L (rowB f j r):=by
   intro i j hi hj
   cases r with
   | nil=>rfl
   | cons y r=>rw[← ih.2 (by simp) i hi,← ih.2 (by simp) j hj]
  refine⟨?_,fun _ i hi => ?_⟩
  · rw[key]
    show _=L (sepW 0++f x++rowB f 1 r)
    rw[L_append,L_append]; rfl
  · rw[key]
    show _=L (sepW i++f x++rowB f (i+1) r)
    rw[L_append,L_append,shift (i+1) 1 (by omega) (by decide)]
    have:L (sepW i) = [44]++sp:=by
     obtain⟨k,rfl⟩:∃ k,i=k+1:=⟨i - 1,by omega⟩
     rfl
    rw[this,List.append_assoc,List.append_assoc,List.append_assoc]
theorem rowB_map {α β:Type} (f:β→ByteArray) (g:α→β):∀ (l:List α) (i:Nat),rowB f i (l.map g)=rowB (fun x=>f (g x)) i l
 | [],_=>rfl
 | x :: r,i=>by
  show sepW i++f (g x)++rowB f (i+1) (r.map g)=sepW i++f (g x)++rowB (fun x=>f (g x)) (i+1) r
  rw[rowB_map f g r (i+1)]
theorem L_itoa (n:Int):L (itoaB n)=itoa n:=L_mk _
theorem plain_L {p:Pl} (h:WfP p):plainW p=L (pqB (plq p)):=by
 obtain⟨k,n,s⟩:=p
 rcases h with ⟨h,-⟩ | ⟨h,-,h2⟩ | ⟨h,-⟩ <;> simp only at h <;> subst h
 · show itoa n=L (itoaB n)
   rw[L_itoa]
 · simp only at h2
   rcases h2 with rfl | rfl <;> rfl
 · rfl
theorem expr_L {x:Xp} (h:WfX x):flat (exprP x)=L (xqB (xpq x)):=by
 obtain⟨k,n,s,l⟩:=x
 rcases h with ⟨h1,h2⟩ | ⟨h1,h2,h3,h4,h5⟩
 · have e:exprP ⟨k,n,s,l⟩=one1 (plainW ⟨k,n,s⟩):=if_neg (wfP_k h1)
   rw[e,plain_L h1]
   simp only at h2
   subst h2
   show L (pqB ⟨k,n,s,0⟩)++([] ++ [])=_
   rw[List.append_nil,List.append_nil]; rfl
 · simp only at h1 h2 h3 h4 h5
   subst h1
   have e:=(flat_row (fun p=>pqB (plq p)) (fun p=>one1 (plainW p)) l (fun p hp=>by
    rw[← plain_L (h5 p hp)]
    show plainW p++([] ++ [])=plainW p
    rw[List.append_nil,List.append_nil])).1
   rw[← rowB_map pqB plq] at e
   have e2:exprP ⟨4,n,s,l⟩=([91],[]) :: listP l ++ [([93],[])]:=by simp only[exprP,if_true]
   rw[e2,flat_append]
   show ([91]++([]++flat (listP l))) ++ [93]=L (⟨#[91]⟩++rowB pqB 0 (l.map plq)++⟨#[93]⟩)
   rw[L_append,L_append,← e]; rfl
theorem exprs_L {l:List Xp} (h:∀ x ∈ l,WfX x):flat (seps (l.map exprP))=L (rowB xqB 0 (l.map xpq)):=by
 rw[rowB_map]
 exact (flat_row (fun x=>xqB (xpq x)) exprP l (fun x hx=>expr_L (h x hx))).1
theorem dom_L {b:Bool} {d:List (Int × Int)} (h:if b=true then d = [] else WfD d):flat (domP b d)=L (if b=true then ⟨#[98,111,111,108]⟩ else domB d):=by
 cases b with
 | true=>rfl
 | false =>
  simp only[Bool.false_eq_true,if_false] at h ⊢
  rcases h with ⟨lo,hi,rfl,-⟩ | ⟨h1,h2,h3⟩
  · show itoa lo++([]++([46,46]++([]++(itoa hi++([] ++ [])))))=L (itoaB lo++⟨#[46,46]⟩++itoaB hi)
    rw[L_append,L_append,L_itoa,L_itoa]
    simp[show L ⟨#[46,46]⟩ = [46,46] from rfl]
  · have e:domP false d=([123],[]) :: seps (d.map fun x=>one1 (itoa x.1)) ++ [([125],[])]:=by
     match d,h1 with
     | x :: y :: r,_=>rfl
    have e1:domB d=⟨#[123]⟩++rowB (fun z=>itoaB z.1) 0 d++⟨#[125]⟩:=by
     match d,h1 with
     | x :: y :: r,_=>rfl
    have e2:=(flat_row (fun z:Int × Int=>itoaB z.1) (fun x=>one1 (itoa x.1)) d (fun z hz=>by
     rw[L_itoa]
     show itoa z.1++([] ++ [])=_
     rw[List.append_nil,List.append_nil])).1
    rw[e,e1,flat_append,L_append,L_append,← e2]
    show ([123]++([]++_)) ++ [125]=_
    rfl
theorem xp_wf {l:List Pl} (h:∀ p ∈ l,WfP p):∀ x ∈ l.map Pl.xp,WfX x:=fun x hx=>by
 obtain⟨p,hp,rfl⟩:=List.mem_map.1 hx
 exact .inl ⟨h p hp,rfl⟩
theorem wfi_vals {x:It} (h:WfI x):∀ y ∈ x.vals,WfX y:=by
 have one:∀ {p:Pl},WfP p→WfX p.xp:=fun hp => .inl ⟨hp,rfl⟩
 rcases h with ⟨-,-,-,-,-,-,p,e,hp,-⟩ | ⟨-,-,-,-,-,e | ⟨p,e,hp⟩⟩ | ⟨-,-,-,-,-,l,e,hl,hp⟩ | ⟨-,-,-,-,-,-,-,h1,h2⟩ | ⟨-,-,-,-,-,e,-⟩
 · rw[e]; exact fun y hy=>by obtain rfl:=List.mem_singleton.1 hy; exact one hp
 · rw[e]; exact fun y hy=>by cases hy
 · rw[e]; exact fun y hy=>by obtain rfl:=List.mem_singleton.1 hy; exact one hp
 · rw[e]; exact xp_wf hp
 · exact h2
 · rw[e]; exact fun y hy=>by cases hy
theorem L_lit (a:Array UInt8):L ⟨a⟩=a.toList:=rfl
theorem L_if (c:Prop) [Decidable c] (a b:ByteArray):L (if c then a else b)=if c then L a else L b:=by split <;> rfl
theorem flat_cons (w b:Bs) (r:Pcs):flat ((w,b) :: r)=w++(b++flat r):=rfl
theorem flat_nil:flat [] = []:=rfl
theorem flat_if (c:Prop) [Decidable c] (a b:Pcs):flat (if c then a else b)=if c then flat a else flat b:=by split <;> rfl
theorem size_L (m:Int):flat (sizeP m) = [91,49,46,46]++itoa m:=by
 have:itoa 1 = [49]:=by kernel_rfl
 simp[sizeP,flat,this]
theorem item_L {y:It} (h:WfI y):itB (itq y)=itemB y:=by
 apply L_inj
 rw[L_item]
 obtain⟨ki,nm,b,d,sz,o,vs,ak⟩:=y
 have hv:=wfi_vals h
 rcases h with ⟨h1,h2,h3,h4,h5,h6,p,h7,h8,h9⟩ | ⟨h1,h2,h3,h4,h5,h6⟩ | ⟨h1,h2,h3,h4,h5,l,h6,h7,h8⟩ | ⟨h1,h2,h3,h4,h5,h6,h7,h8,h9⟩ | ⟨h1,h2,h3,h4,h5,h6,h7⟩
 · simp only at h1 hv
   subst h1
   have e:itB (itq ⟨1,nm,b,d,sz,o,vs,ak⟩)=kindB b++(⟨#[58,32]⟩++(nm++⟨#[32,61,32]⟩))++rowB xqB 0 (vs.map xpq)++⟨#[59]⟩:=rfl
   rw[e]
   simp only[L_append,← exprs_L hv,itemP,if_true,flat_append,flat_cons,flat_nil,L_lit,kindB,kindW,L_if,sp]
   simp
 · simp only at h1 hv h5
   subst h1
   have e:itB (itq ⟨2,nm,b,d,sz,o,vs,ak⟩)=⟨#[118,97,114,32]⟩++(if b=true then ⟨#[98,111,111,108]⟩ else domB d)++(⟨#[58,32]⟩++nm)++(if o=true then ⟨#[32,58,58,32,111,117,116,112,117,116,95,118,97,114]⟩ else ⟨#[]⟩) ++
    (if vs.map xpq = [] then ⟨#[]⟩ else ⟨#[32,61,32]⟩++rowB xqB 0 (vs.map xpq))++⟨#[59]⟩:=rfl
   have e2:L (if b=true then ⟨#[98,111,111,108]⟩ else domB d)=flat (domP b d):=(dom_L h5).symm
   rw[e]
   simp only[L_append,e2]
   have e3:L (if vs.map xpq = [] then ⟨#[]⟩ else ⟨#[32,61,32]⟩++rowB xqB 0 (vs.map xpq))=if vs = [] then [] else [32,61,32]++flat (seps (vs.map exprP)):=by
    cases vs with
    | nil=>rfl
    | cons x r =>
     rw[if_neg (by simp),if_neg (by simp),L_append,exprs_L hv]; rfl
   rw[e3]
   have hne:(vs ≠ [])=¬ (vs = []):=rfl
   simp only[itemP,show ¬ ((2:Int)=1) by decide,if_true,if_false,flat_append,flat_cons,flat_nil,flat_if,L_lit,L_if,sp]
   generalize flat (seps (vs.map exprP))=V at *
   cases o <;> by_cases hn:vs = [] <;> simp[hn]
 · simp only at h1 hv h3 h4
   subst h3 h4
   have key:∀ v:ByteArray,L (arrB (itq ⟨ki,nm,b,[],sz,o,vs,0⟩) v) = [97,114,114,97,121,32]++([91,49,46,46]++(itoa sz++([93]++([32,111,102,32]++(L v++(kindW b++([58,32]++(L nm++((if o=true then [32,58,58,32,111,117,116,112,117,116,95,97,114,114,97,121,40]++([91,49,46,46]++(itoa sz++([93] ++ [41]))) else [])++([32,61,32,91]++(flat (seps (vs.map exprP)) ++ [93]))))))))))):=by
    intro v
    have e:arrB (itq ⟨ki,nm,b,[],sz,o,vs,0⟩) v=(⟨#[97,114,114,97,121,32]⟩++(spanB sz++(⟨#[32,111,102,32]⟩++(v++(kindB b++(⟨#[58,32]⟩++nm)))))) ++
     (if o=true then ⟨#[32,58,58,32,111,117,116,112,117,116,95,97,114,114,97,121,40]⟩++(spanB sz++⟨#[41]⟩) else ⟨#[]⟩)++⟨#[32,61,32,91]⟩++rowB xqB 0 (vs.map xpq)++⟨#[93]⟩:=rfl
    have k:L (kindB b)=kindW b:=by cases b <;> rfl
    rw[e]
    simp only[L_append,L_if,L_lit,spanB,L_itoa,k,← exprs_L hv]
    cases o <;> simp
   have fin:∀ v:ByteArray,(if ki=4 then ([118,97,114]++sp:Bs) else [])=L v→itB (itq ⟨ki,nm,b,[],sz,o,vs,0⟩)=arrB (itq ⟨ki,nm,b,[],sz,o,vs,0⟩) v++⟨#[59]⟩→ki=3∨ki=4→L (itB (itq ⟨ki,nm,b,[],sz,o,vs,0⟩))=flat (itemP ⟨ki,nm,b,[],sz,o,vs,0⟩):=by
    intro v hv2 hi hk
    have n1:¬ ki=1:=by omega
    have n2:¬ ki=2:=by omega
    rw[hi,L_append,key v,← hv2]
    simp only[itemP,if_neg n1,if_neg n2,if_pos hk,flat_append,flat_cons,flat_nil,flat_if,size_L,L_lit,sp]
    generalize flat (seps (vs.map exprP))=V at *
    cases o <;> by_cases h4:ki=4 <;> simp[h4]
   rcases h1 with ⟨rfl,-⟩ | rfl
   · exact fin ⟨#[]⟩ rfl rfl (.inl rfl)
   · exact fin ⟨#[118,97,114,32]⟩ rfl rfl (.inr rfl)
 · simp only at h1 hv
   subst h1
   have e:itB (itq ⟨5,nm,b,d,sz,o,vs,ak⟩)=⟨#[99,111,110,115,116,114,97,105,110,116,32]⟩++(nm++⟨#[40]⟩)++rowB xqB 0 (vs.map xpq)++⟨#[41]⟩++⟨#[59]⟩:=rfl
   rw[e]
   simp only[L_append,← exprs_L hv,itemP,show ¬ ((5:Int)=1) by decide,show ¬ ((5:Int)=2) by decide,show ¬ ((5:Int)=3∨(5:Int)=4) by decide,if_true,if_false,flat_append,flat_cons,flat_nil,L_lit,sp]
   simp
 · simp only at h1 h7
   subst h1
   have e:itB (itq ⟨6,nm,b,d,sz,o,vs,ak⟩)=⟨#[115,111,108,118,101,32]⟩++(if ak=0 then ⟨#[115,97,116,105,115,102,121]⟩ else if ak=1 then ⟨#[109,105,110,105,109,105,122,101,32]⟩++nm else if ak=2 then ⟨#[109,97,120,105,109,105,122,101,32]⟩++nm else ⟨#[]⟩)++⟨#[59]⟩:=rfl
   rw[e]
   simp only[L_append,itemP,show ¬ ((6:Int)=1) by decide,show ¬ ((6:Int)=2) by decide,show ¬ ((6:Int)=3∨(6:Int)=4) by decide,show ¬ ((6:Int)=5) by decide,if_false,L_lit,L_if,flat_if,flat_cons,flat_nil,sp]
   rcases h7 with ⟨rfl,-⟩ | ⟨rfl | rfl,-⟩ <;> simp
end Go.Proofs.YtjmmcnldfkjebaaGreatDoor.Pge
namespace Go.Proofs.YtjmmcnldfkjebaaGreatDoor.Pge
open Go.RowKit
set_option linter.unusedVariables false
set_option linter.unusedSimpArgs false
open Dig Lx Tk Ps Ti Sh
def RetE (w0:World) (b:Nat) (st:Option ByteArray) (w:World) (e:Ending) (w':World):Prop:=e = .returned (.tuple #[])∧Pg w0.heap.size b st w'∧Since w0 w'∧Keeps 5 b w w'
theorem Keeps.of {T:TypeId} {b:Nat} {w w':World} (k:Since w w'):Keeps T b w w':=fun i cs t fr _ _ h=>by
 have hl:i<w.heap.size:=by
  apply Decidable.byContradiction; intro hn
  rw[Array.getElem?_eq_none (by omega)] at h; cases h
 rw[k.block i hl]; exact h
theorem RetE.pre {w0:World} {b:Nat} {st:Option ByteArray} {w v:World} {e:Ending} {w':World} (h:RetE w0 b st w e w') (k:Keeps 5 b v w):RetE w0 b st v e w':=⟨h.1,h.2.1,h.2.2.1,k.trans h.2.2.2⟩
theorem write_bx {w0:World} {b:Nat} {st:Option ByteArray} {g m:Nat} (ss:List ByteArray) {w:World} (hp:Pg w0.heap.size b st w) (hs:Since w0 w) (hb:Bx w g (ss.map Value.string).toArray 9) (hg:g≠b) (hm:ss.length=m) (hm2:m≤100) :
 Calls Tryz.prog 11 #[.pointer (some ⟨b,0,none⟩),.slice (some ⟨g,0,none⟩) m m] w (RetE w0 b (put st (cat ss)) w):=by
 refine (write_any w0.heap.size b st g m ss 9 w hp hb (by decide) hg hm hm2 hs.size).mono ?_
 rintro e w' ⟨rfl,h1,h2,h3⟩
 exact⟨rfl,h1,Below.trans hs h2,h3⟩
theorem write1 {w0:World} {b:Nat} {st:Option ByteArray} {w:World} (s1:ByteArray) (hp:Pg w0.heap.size b st w) (hs:Since w0 w) {g:Nat} (hg:w.heap.size=g) :
 Calls Tryz.prog 11 #[.pointer (some ⟨b,0,none⟩),.slice (some ⟨g,0,none⟩) 1 1] (w.alloc (.cells #[.string s1] 9)) (RetE w0 b (put st (s1)) w):=by
 subst hg
 have hl:=hp.lt
 have h:=write_bx [s1] (hp.since (sA _ (.cells #[.string s1] 9))) (hs.trans (sA _ _)) (Bx.fresh w #[.string s1] 9) (by omega) (m:=1) rfl (by decide)
 refine h.mono fun e w' k => ?_
 have e1:cat [s1]=s1:=by
  simp only[cat,add_nos]
 rw[e1] at k
 exact k.pre (Keeps.of (sA _ _))
theorem write2 {w0:World} {b:Nat} {st:Option ByteArray} {w:World} (s1 s2:ByteArray) (hp:Pg w0.heap.size b st w) (hs:Since w0 w) {g:Nat} (hg:w.heap.size=g) :
 Calls Tryz.prog 11 #[.pointer (some ⟨b,0,none⟩),.slice (some ⟨g,0,none⟩) 2 2] (w.alloc (.cells #[.string s1,.string s2] 9)) (RetE w0 b (put st (s1++s2)) w):=by
 subst hg
 have hl:=hp.lt
 have h:=write_bx [s1,s2] (hp.since (sA _ (.cells #[.string s1,.string s2] 9))) (hs.trans (sA _ _)) (Bx.fresh w #[.string s1,.string s2] 9) (by omega) (m:=2) rfl (by decide)
 refine h.mono fun e w' k => ?_
 have e1:cat [s1,s2]=s1++s2:=by
  simp only[cat,add_nos]
 rw[e1] at k
 exact k.pre (Keeps.of (sA _ _))
theorem write3 {w0:World} {b:Nat} {st:Option ByteArray} {w:World} (s1 s2 s3:ByteArray) (hp:Pg w0.heap.size b st w) (hs:Since w0 w) {g:Nat} (hg:w.heap.size=g) :
 Calls Tryz.prog 11 #[.pointer (some ⟨b,0,none⟩),.slice (some ⟨g,0,none⟩) 3 3] (w.alloc (.cells #[.string s1,.string s2,.string s3] 9)) (RetE w0 b (put st (s1++(s2++s3))) w):=by
 subst hg
 have hl:=hp.lt
 have h:=write_bx [s1,s2,s3] (hp.since (sA _ (.cells #[.string s1,.string s2,.string s3] 9))) (hs.trans (sA _ _)) (Bx.fresh w #[.string s1,.string s2,.string s3] 9) (by omega) (m:=3) rfl (by decide)
 refine h.mono fun e w' k => ?_
 have e1:cat [s1,s2,s3]=s1++(s2++s3):=by
  simp only[cat,add_nos]
 rw[e1] at k
 exact k.pre (Keeps.of (sA _ _))
theorem write4d {w0:World} {b:Nat} {st:Option ByteArray} {w:World} (s1 s2 s3 s4:ByteArray) (hp:Pg w0.heap.size b st w) (hs:Since w0 w) {g:Nat} (hg:w.heap.size=g) :
 Calls Tryz.prog 11 #[.pointer (some ⟨b,0,none⟩),.slice (some ⟨g,0,none⟩) 4 4] (w.alloc (.cells #[.string s1,.string s2,.string s3,.string s4] 9)).drew (RetE w0 b (put st (s1++(s2++(s3++s4)))) w):=by
 subst hg
 have hl:=hp.lt
 have k:Since w (w.alloc (.cells #[.string s1,.string s2,.string s3,.string s4] 9)).drew:=Since.drew (sA _ _)
 have h:=write_bx [s1,s2,s3,s4] (hp.since k) (hs.trans k) ((Bx.fresh w #[.string s1,.string s2,.string s3,.string s4] 9).since (Since.drew (Since.refl _))) (by omega) (m:=4) rfl (by decide)
 refine h.mono fun e w' k2 => ?_
 have e1:cat [s1,s2,s3,s4]=s1++(s2++(s3++s4)):=by
  simp only[cat,add_nos]
 rw[e1] at k2
 exact k2.pre (Keeps.of k)
theorem write7d {w0:World} {b:Nat} {st:Option ByteArray} {w:World} (s1 s2 s3 s4 s5 s6 s7:ByteArray) (hp:Pg w0.heap.size b st w) (hs:Since w0 w) {g:Nat} (hg:w.heap.size=g) :
 Calls Tryz.prog 11 #[.pointer (some ⟨b,0,none⟩),.slice (some ⟨g,0,none⟩) 7 7] (w.alloc (.cells #[.string s1,.string s2,.string s3,.string s4,.string s5,.string s6,.string s7] 9)).drew (RetE w0 b (put st (s1++(s2++(s3++(s4++(s5++(s6++s7))))))) w):=by
 subst hg
 have hl:=hp.lt
 have k:Since w (w.alloc (.cells #[.string s1,.string s2,.string s3,.string s4,.string s5,.string s6,.string s7] 9)).drew:=Since.drew (sA _ _)
 have h:=write_bx [s1,s2,s3,s4,s5,s6,s7] (hp.since k) (hs.trans k) ((Bx.fresh w #[.string s1,.string s2,.string s3,.string s4,.string s5,.string s6,.string s7] 9).since (Since.drew (Since.refl _))) (by omega) (m:=7) rfl (by decide)
 refine h.mono fun e w' k2 => ?_
 have e1:cat [s1,s2,s3,s4,s5,s6,s7]=s1++(s2++(s3++(s4++(s5++(s6++s7))))):=by
  simp only[cat,add_nos]
 rw[e1] at k2
 exact k2.pre (Keeps.of k)
theorem number_any (n:Int) (hn:fits n) (w:World) (hw:TabIn w):Calls Tryz.prog 93 #[.int .i64 n] w fun e w'=>e = .returned (.string (itoaB n))∧Since w w':=by
 have F:=lH (format_any n hn w hw)
 clear hw
 go_enter Tryz.func93,Tryz.ntmps93
 go_wp2_with (go_at_call 117; (with_reducible refine F.out.mono ?_); rintro e w1 ⟨rfl,h1⟩)
 go_ret
 exact⟨rfl,h1⟩
theorem separator_any (i:Nat) (w:World):Calls Tryz.prog 90 #[.int .i64 (i:Int)] w fun e w'=>e = .returned (.string (sepW i))∧w'=w:=by
 by_cases h:i=0
 · subst h
   go_enter Tryz.func90,Tryz.ntmps90
   go_wp2
   go_ret
   exact⟨rfl,rfl⟩
 · have hz:((i:Int) == 0)=false:=by rw[beq_eq_false_iff_ne]; omega
   have e:sepW i=⟨#[44,32]⟩:=if_neg h
   rw[e]
   go_enter Tryz.func90,Tryz.ntmps90
   go_wp2
   go_ret
   exact⟨rfl,rfl⟩
theorem truthName_any (n:Int) (w:World):Calls Tryz.prog 122 #[.int .i64 n] w fun e w'=>e = .returned (.string (truthB n))∧w'=w:=by
 by_cases h:n=1
 · subst h
   go_enter Tryz.func122,Tryz.ntmps122
   go_wp2
   go_ret
   exact⟨rfl,rfl⟩
 · have hz:(n == 1)=false:=by rw[beq_eq_false_iff_ne]; exact h
   have e:truthB n=⟨#[102,97,108,115,101]⟩:=if_neg h
   rw[e]
   go_enter Tryz.func122,Tryz.ntmps122
   go_wp2
   go_ret
   exact⟨rfl,rfl⟩
theorem typeName_any (b:Bool) (w:World):Calls Tryz.prog 59 #[.bool b] w fun e w'=>e = .returned (.string (kindB b))∧w'=w:=by
 cases b <;>
 · go_enter Tryz.func59,Tryz.ntmps59
   go_wp2
   go_ret
   exact⟨rfl,rfl⟩
end Go.Proofs.YtjmmcnldfkjebaaGreatDoor.Pge
namespace Go.Proofs.YtjmmcnldfkjebaaGreatDoor.Pge
open Go.RowKit
set_option linter.unusedVariables false
set_option linter.unusedSimpArgs false
open Dig Lx Tk Ps Ti Sh
abbrev PT (b:Nat):Value:=.pointer (some ⟨b,0,none⟩)
abbrev ListSays (w0:World) (b:Nat) (v:Value) (l:ByteArray):Prop:=∀ (st:Option ByteArray) (w:World),Pg w0.heap.size b st w→Since w0 w→Calls Tryz.prog 60 #[.pointer (some ⟨b,0,none⟩),v] w (RetE w0 b (put st l) w)
theorem expr_gen {w0:World} {b:Nat} {st:Option ByteArray} {w:World} (k n:Int) (s l:ByteArray) (A:Option Addr) (m c:Nat) (hp:Pg w0.heap.size b st w) (hs:Since w0 w) (hn:fits n) (ht:TabIn w0) (hl:k=4→ListSays w0 b (.slice A m c) l) :
 Calls Tryz.prog 91 #[.pointer (some ⟨b,0,none⟩),.agg #[.int .i64 k,.int .i64 n,.string s,.slice A m c]] w (RetE w0 b (put st (exprW k n s l)) w):=by
 have hlt:=hp.lt
 have HP:=lH hp
 have HS:=lH hs
 have NM:=lH (fun W (h:Since w0 W)=>number_any n hn W (ht.since h))
 have TN:=lH (fun W=>truthName_any n W)
 have KP:=lH hp.okp
 have ka:=lH (sA w (.cells #[.int .i64 k,.int .i64 n,.string s,.slice A m c] 93))
 clear hp hs hn ht
 by_cases k1:k=1
 · subst k1
   rw[show exprW 1 n s l=itoaB n from rfl]
   clear hl
   go_enter Tryz.func91,Tryz.ntmps91
   go_wp2_with (first
    | (go_at_call 93; (with_reducible refine (NM.out _ (HS.out.trans ka.out)).mono ?_); rintro e w1 ⟨rfl,h1⟩; have p1:=HP.out.since (ka.out.trans h1); have s1:=HS.out.trans (ka.out.trans h1))
    | (go_at_call 11; (with_reducible refine (write1 _ p1 s1 (by simp)).mono ?_); rintro e w2 ⟨rfl,p2,s2,q2⟩))
   go_end0
   exact⟨rfl,p2,s2,(Keeps.of (ka.out.trans h1)).trans q2⟩
 have z1:(k == 1)=false:=by rw[beq_eq_false_iff_ne]; exact k1
 by_cases k2:k=2
 · subst k2
   rw[show exprW 2 n s l=truthB n from rfl]
   clear hl k1
   have p1:=HP.out.since ka.out
   have s1:=HS.out.trans ka.out
   go_enter Tryz.func91,Tryz.ntmps91
   go_wp2_with (first
    | (go_at_call 122; (with_reducible refine (TN.out _).mono ?_); rintro e w1 ⟨rfl,rfl⟩)
    | (go_at_call 11; (with_reducible refine (write1 _ p1 s1 (by simp)).mono ?_); rintro e w2 ⟨rfl,p2,s2,q2⟩))
   go_end0
   exact⟨rfl,p2,s2,(Keeps.of ka.out).trans q2⟩
 have z2:(k == 2)=false:=by rw[beq_eq_false_iff_ne]; exact k2
 by_cases k3:k=3
 · subst k3
   rw[show exprW 3 n s l=s from rfl]
   clear hl k1 k2
   have p1:=HP.out.since ka.out
   have s1:=HS.out.trans ka.out
   go_enter Tryz.func91,Tryz.ntmps91
   go_wp2_with (first
    | (go_at_call 11; (with_reducible refine (write1 _ p1 s1 (by simp)).mono ?_); rintro e w2 ⟨rfl,p2,s2,q2⟩))
   go_end0
   exact⟨rfl,p2,s2,(Keeps.of ka.out).trans q2⟩
 have z3:(k == 3)=false:=by rw[beq_eq_false_iff_ne]; exact k3
 by_cases k4:k=4
 · subst k4
   have e:put st (exprW 4 n s l)=put (put (put st ⟨#[91]⟩) l) ⟨#[93]⟩:=by rw[put_put,put_put]; rfl
   rw[e]
   have LS:=lH (hl rfl)
   clear hl k1 k2 k3 e
   have p1:=HP.out.since ka.out
   have s1:=HS.out.trans ka.out
   have GB:=lH (Bx.fresh w #[.int .i64 4,.int .i64 n,.string s,.slice A m c] 93)
   go_enter Tryz.func91,Tryz.ntmps91
   go_wp2_with (first
    | (go_at_call 11; (with_reducible refine (write1 _ p1 s1 (by simp)).mono ?_); rintro e w2 ⟨rfl,p2,s2,q2⟩; have gb1:=q2.bx (by decide) (by omega) GB.out; obtain⟨g0,g1,g2,g3⟩:=gb1.four)
    | (go_at_call 60; (with_reducible refine (LS.out _ _ p2 s2).mono ?_); rintro e w3 ⟨rfl,p3,s3,q3⟩)
    | (go_at_call 11; (with_reducible refine (write1 _ p3 s3 (by simp)).mono ?_); rintro e w4 ⟨rfl,p4,s4,q4⟩))
   go_end0
   exact⟨rfl,p4,s4,(Keeps.of ka.out).trans (q2.trans (q3.trans q4))⟩
 have z4:(k == 4)=false:=by rw[beq_eq_false_iff_ne]; exact k4
 have e:put st (exprW k n s l)=st:=by
  simp only[exprW,if_neg k1,if_neg k2,if_neg k3,if_neg k4]
  exact put_nos KP.out rfl
 rw[e]
 clear hl k1 k2 k3 k4 e
 go_enter Tryz.func91,Tryz.ntmps91
 go_wp2
 go_end0
 exact⟨rfl,HP.out.since ka.out,HS.out.trans ka.out,Keeps.of ka.out⟩
theorem rowB_split {α:Type} (f:α→ByteArray) (xs:List α) (k:Nat):∃ r,rowB f 0 xs=rowB f 0 (xs.take k)++r:=by
 have key:∀ (l:List α) (i:Nat) (m:List α),∃ r,rowB f i (m++l)=rowB f i m++r:=by
  intro l i m
  induction m generalizing i with
  | nil=>exact⟨rowB f i l,(nos_add _).symm⟩
  | cons x m ih =>
   obtain⟨r,hr⟩:=ih (i+1)
   refine⟨r,?_⟩
   show sepW i++f x++rowB f (i+1) (m++l)=sepW i++f x++rowB f (i+1) m++r
   rw[hr,ByteArray.append_assoc (a:=sepW i++f x)]
 obtain⟨r,hr⟩:=key (xs.drop k) 0 (xs.take k)
 rw[List.take_append_drop] at hr
 exact⟨r,hr⟩
theorem exprs_gen {α:Type} {Q:World→α→List Value→Prop} (f:α→ByteArray) (w0:World) (b:Nat) (v:Value) (xs:List α) (h:Sl 4 Q w0 v xs)
 (hQ:∀ x u,x ∈ xs→Q w0 x u→∃ (k n:Int) (s:ByteArray) (A:Option Addr) (m c:Nat),u = [.int .i64 k,.int .i64 n,.string s,.slice A m c] ∧
  ∀ (st:Option ByteArray) (w:World),Pg w0.heap.size b st w→Since w0 w→Calls Tryz.prog 91 #[.pointer (some ⟨b,0,none⟩),.agg #[.int .i64 k,.int .i64 n,.string s,.slice A m c]] w (RetE w0 b (put st (f x)) w)) (hlen:xs.length≤10000) :
 ListSays w0 b v (rowB f 0 xs):=by
 intro st w hp hs
 have H:=lH h
 have HQ:=lH hQ
 obtain⟨A0,c0,rfl⟩:=h.form
 obtain⟨n,hnn⟩:∃ n,n=xs.length:=⟨_,rfl⟩
 rw[← hnn] at H hlen ⊢
 have HN:=lH hnn
 have HP:=lH hp
 have HS:=lH hs
 have hlt:=hp.lt
 clear h hQ hnn hp hs
 go_enter Tryz.func60,Tryz.ntmps60
 go_wp2
 go_loopw [8] (fun i wr=>∃ k:Nat,i = .int .i64 (k:Int)∧k≤n∧Hid (Pg w0.heap.size b (put st (rowB f 0 (xs.take k))) wr)∧Hid (Since w0 wr)∧Hid (Keeps 5 b w wr)∧b<wr.heap.size) (fun i _=>n - (intOf i).toNat)
 case atStart=>exact⟨0,rfl,Nat.zero_le _,by rw[List.take_zero]; exact (put_nos HP.out.okp (s:=rowB f 0 []) rfl).symm ▸ HP.out,HS.out,Keeps.refl _ _ _,hlt⟩
 case round =>
  obtain⟨k,rfl,hk,HPk,HSk,HKk,hltk⟩:=hrel
  by_cases hkn:k<n
  · have hkl:k<xs.length:=by have:=HN.out; omega
    obtain⟨bb,o,u,rfl,hq,hul,hcs⟩:=H.out.el hkl
    obtain⟨kx,nx,sx,Ax,mx,cx,rfl,HE⟩:=HQ.out xs[k] u (List.getElem_mem hkl) hq
    have hst:=rowB_take f hkl
    obtain⟨x,hx⟩:∃ x,x=xs[k]:=⟨_,rfl⟩
    rw[← hx] at hst HE
    have up:∀ {p:Addr} {u:Value},w0.cell? p=some u→wr.cell? p=some u:=fun g=>(HSk.out.cell _ (World.block_lt_of_cell? _ _ g)).trans g
    have g0:=up (hcs 0 _ rfl)
    have g1:=up (hcs 1 _ rfl)
    have g2:=up (hcs 2 _ rfl)
    have g3:=up (hcs 3 _ rfl)
    rw[Nat.add_zero] at g0
    have HST:=lH hst
    have HEE:=lH HE
    have KP:=lH HPk.out.okp
    have hcell:=full_cell HPk.out
    have ka:=lH (sA wr (.cells #[.int .i64 kx,.int .i64 nx,.string sx,.slice Ax mx cx] 93))
    have GB:=lH (Bx.fresh wr #[.int .i64 kx,.int .i64 nx,.string sx,.slice Ax mx cx] 93)
    have SP:=lH (fun W=>separator_any k W)
    have p1:=HPk.out.since ka.out
    have s1:=HSk.out.trans ka.out
    have hcell1:=full_cell p1
    clear hst hx hq hul hcs up HE
    obtain⟨sk,hsk⟩:∃ sk,sk=put st (rowB f 0 (xs.take k)):=⟨_,rfl⟩
    rw[← hsk] at p1 hcell hcell1 HPk KP
    have HSK:=lH hsk
    clear hsk
    cases sk with
    | none =>
     simp only[Option.isNone_none] at hcell hcell1
     go_wp2
     go_end0
     refine⟨rfl,?_,s1,HKk.out.trans (Keeps.of ka.out)⟩
     have:put st (rowB f 0 xs)=none:=by
      obtain⟨r,hr⟩:=rowB_split f xs k
      rw[hr,← put_put,← HSK.out]; rfl
     rw[this]
     exact p1
    | some t =>
     simp only[Option.isNone_some] at hcell hcell1
     go_wp2_with (first
      | (go_at_call 90; (with_reducible refine (SP.out _).mono ?_); rintro e w1 ⟨rfl,rfl⟩)
      | (go_at_call 11; (with_reducible refine (write1 _ p1 s1 (by simp)).mono ?_); rintro e w2 ⟨rfl,p2,s2,q2⟩; have gb1:=q2.bx (by decide) (by omega) GB.out; obtain⟨y0,y1,y2,y3⟩:=gb1.four)
      | (go_at_call 91; (with_reducible refine (HEE.out _ _ p2 s2).mono ?_); rintro e w3 ⟨rfl,p3,s3,q3⟩))
     go_roundw
     case rel =>
      refine⟨k+1,by go_num,by omega,?_,s3,HKk.out.trans ((Keeps.of ka.out).trans (q2.trans q3)),p3.lt⟩
      rw[HST.out,← put_put,← HSK.out,← put_put]
      exact p3
     case measure=>simp[intOf]; omega
  · obtain rfl:k=n:=by omega
    have e:xs.take k=xs:=List.take_of_length_le (by have:=HN.out; omega)
    rw[e] at HPk
    clear e
    go_wp2
    go_end0
    exact⟨rfl,HPk.out,HSk.out,HKk.out⟩
theorem exprs_nought {w0:World} {b:Nat} (ht:TabIn w0) {v:Value} {xs:List Unit} (h:Sl 4 QZ w0 v xs) (hl:xs.length≤1):ListSays w0 b v ⟨#[]⟩:=by
 have e:rowB (fun _:Unit=>exprW 0 0 nos ⟨#[]⟩) 0 xs=⟨#[]⟩:=by
  match xs,hl with
  | [],_=>rfl
  | [()],_=>rfl
 rw[← e]
 refine exprs_gen (fun _=>exprW 0 0 nos ⟨#[]⟩) w0 b v xs h (fun x u _ hq => ?_) (by omega)
 exact⟨0,0,nos,none,0,0,hq,fun st w hp hs=>expr_gen 0 0 nos ⟨#[]⟩ none 0 0 hp hs ⟨by decide,by decide⟩ ht (fun h=>absurd h (by decide))⟩
theorem exprs_inner {w0:World} {b:Nat} (ht:TabIn w0) {G:Nat→Prop} {v:Value} {xs:List Pq} (h:Sl 4 (QPq G) w0 v xs) (hl:xs.length≤10000) (hb:∀ p ∈ xs,fits p.n∧p.d≤1):ListSays w0 b v (rowB pqB 0 xs):=by
 refine exprs_gen pqB w0 b v xs h (fun x u hx hq => ?_) hl
 obtain⟨A,c,h1,h2⟩:=hq
 refine⟨_,_,_,_,_,_,h1,fun st w hp hs=>expr_gen x.k x.n x.s ⟨#[]⟩ A (dlen x.d) c hp hs (hb x hx).1 ht (fun _ => ?_)⟩
 have hd:=(hb x hx).2
 rcases Nat.eq_zero_or_pos x.d with h0 | h0
 · rw[h0]
   exact exprs_nought ht (xs:=[]) ⟨A,c,rfl,Nat.zero_le _,fun h=>absurd h (Nat.lt_irrefl 0)⟩ (by decide)
 · have h1:x.d=1:=by omega
   rw[h1]
   exact exprs_nought ht (xs:=[()]) (h2 h1).1 (by decide)
theorem exprs_any {w0:World} {b:Nat} (ht:TabIn w0) {G:Nat→Prop} {v:Value} {xs:List Xq} (h:Sl 4 (QXq G) w0 v xs) (hl:xs.length≤10000) (hb:∀ x ∈ xs,fits x.n∧x.l.length≤10000∧∀ p ∈ x.l,fits p.n∧p.d≤1):ListSays w0 b v (rowB xqB 0 xs):=by
 refine exprs_gen xqB w0 b v xs h (fun x u hx hq => ?_) hl
 obtain⟨v',h1,h2,-⟩:=hq
 obtain⟨A,c,rfl⟩:=h2.form
 exact⟨_,_,_,_,_,_,h1,fun st w hp hs=>expr_gen x.k x.n x.s _ A x.l.length c hp hs (hb x hx).1 ht (fun _=>exprs_inner ht h2 (hb x hx).2.1 (hb x hx).2.2)⟩
end Go.Proofs.YtjmmcnldfkjebaaGreatDoor.Pge
