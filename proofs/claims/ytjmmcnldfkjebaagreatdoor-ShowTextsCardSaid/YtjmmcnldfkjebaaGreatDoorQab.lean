/- A slice of 32-bit digits that reads as a list of numbers; what was there before a call is there behind it. New -/
import Derived.BigQuiet
import Derived.Deep.QuietTactic
import Derived.Lib.Hide
import Derived.OpenShut
import Derived.ProofKit
import Derived.WalkKit
import Derived.WalkSmall
import Derived.Test.YtjmmcnldfkjebaaGreatDoorRows
import Derived.Test.YtjmmcnldfkjebaaGreatDoorDig
import Derived.Laws.Rows
import Derived.Deep.RegionHeld3
set_option linter.unusedVariables false
set_option linter.unusedSimpArgs false
section
namespace Go.Proofs.YtjmmcnldfkjebaaGreatDoor
open Go.RowKit
open Dig
def Since (w w':World):Prop:=Below w.heap.size w w'
theorem Since.refl (w:World):Since w w:=Below.refl _ _
theorem Since.trans {a b c:World} (h:Since a b) (k:Since b c):Since a c:=Below.trans h (Below.mono k h.size)
theorem Since.alloc {a b:World} (h:Since a b) (o:Obj):Since a (b.alloc o):=Below.alloc h h.size o
theorem Since.set {a b:World} (h:Since a b) {p:Addr} (hp:a.heap.size≤p.block) (u:Value):Since a (b.setCell p u):=Below.setCell h hp u
theorem Since.drewN {a b:World} (h:Since a b) (n:Nat):Since a (b.drewN n):=below_drewN h n
theorem Since.drew {a b:World} (h:Since a b):Since a b.drew:=Below.drew h
theorem ret_bool {a b:Bool} (h:a=b):Ending.returned (.bool a) = .returned (.bool b):=by rw[h]
theorem ret_int {k:IntKind} {a b:Int} (h:a=b):Ending.returned (.int k a) = .returned (.int k b):=by rw[h]
def u32s (ds:List Nat):List Value:=ds.map fun (d:Nat)=>Value.int .u32 (d:Int)
theorem u32s_append (xs ys:List Nat):u32s (xs++ys)=u32s xs++u32s ys:=by simp[u32s]
theorem u32s_one (d:Nat):u32s [d] = [Value.int .u32 (d:Int)]:=rfl
def Row (w:World) (v:Value) (ds:List Nat):Prop:=
 IsDig ds∧∃ A c,v = .slice A ds.length c∧(0<ds.length→∃ b o,A=some ⟨b,o,none⟩∧∀ i,i<ds.length→w.cell? ⟨b,o+i,none⟩=some (.int .u32 ((ds.getD i 0:Nat):Int)))∧ds.length≤c
theorem Row.dig {w:World} {v:Value} {ds:List Nat} (h:Row w v ds):IsDig ds:=h.1
theorem Row.since {w w':World} {v:Value} {ds:List Nat} (h:Row w v ds) (k:Since w w'):Row w' v ds:=by
 obtain⟨h1,A,c,h2,h3,h6⟩:=h
 refine⟨h1,A,c,h2,fun hl => ?_,h6⟩
 obtain⟨b,o,h4,h5⟩:=h3 hl
 exact⟨b,o,h4,fun i hi=>(Below.cell k (World.block_lt_of_cell? _ _ (h5 i hi))).trans (h5 i hi)⟩
theorem Row.nil (w:World):Row w (.slice none 0 0) []:=⟨isDig_nil,none,0,rfl,fun h=>by simp at h,Nat.le_refl _⟩
theorem add_block (b o i:Nat):(⟨b,o,none⟩:Addr).add i=⟨b,o+i,none⟩:=by
 unfold Addr.add; by_cases h:i=0 <;> simp[h]
theorem Row.own {w:World} {base:Nat} {e:TypeId} {v:Value} {n:Nat} {ds:List Nat} (hd:IsDig ds) (h:w.ownsRow base e 1 v n (u32s ds)):Row w v ds:=by
 have hl:ds.length=n:=by have:=h.1; simpa [u32s] using this
 subst hl
 refine⟨hd,?_⟩
 have hc:=fun (g:Nat)=>h.cells (g:=g)
 rcases h.2 with ⟨h1,h2⟩ | ⟨g,cap,cur,h1,_,_,hcap,_⟩
 · exact⟨none,0,by rw[h1,h2],fun h=>by omega,by omega⟩
 · refine⟨some ⟨g,0,none⟩,cap,h1,fun _=>⟨g,0,rfl,fun i hi => ?_⟩,hcap⟩
   have:=hc g (by rw[h1]; rfl) i (.int .u32 ((ds.getD i 0:Nat):Int)) (by simp[u32s,hi,List.getD])
   rw[add_block] at this
   simpa using this
def RetRow (ds:List Nat) (w:World) (e:Ending) (w':World):Prop:=∃ v,e = .returned v∧Row w' v ds∧Since w w'
end Go.Proofs.YtjmmcnldfkjebaaGreatDoor
end
section
namespace Go.Proofs.YtjmmcnldfkjebaaGreatDoor
open Go.RowKit
open Dig
theorem row_new (W:World) (e:TypeId) (c:Array Value) (ds:List Nat) (hd:IsDig ds) (hl:c.size=ds.length) (hc:∀ i,i<ds.length→c[i]?=some (.int .u32 ((ds.getD i 0:Nat):Int))) :
 Row (W.alloc (.cells c e)) (.slice (some ⟨W.heap.size,0,none⟩) ds.length ds.length) ds:=by
 refine⟨hd,_,_,rfl,fun _=>⟨W.heap.size,0,rfl,fun i hi => ?_⟩,Nat.le_refl _⟩
 rw[Nat.zero_add,← hc i hi]
 simp
theorem row_one (W:World) (e:TypeId) (d:Nat) (hd:d<4294967296):Row (W.alloc (.cells #[.int .u32 (d:Int)] e)) (.slice (some ⟨W.heap.size,0,none⟩) 1 1) [d]:=
 row_new W e #[.int .u32 (d:Int)] [d] (isDig_one hd) rfl (fun i hi=>by
  have:i=0:=by simpa using hi
  subst this; rfl)
theorem sA (W:World) (o:Obj):Since W (W.alloc o):=(Since.refl W).alloc o
end Go.Proofs.YtjmmcnldfkjebaaGreatDoor
end
section
namespace Go.Proofs.YtjmmcnldfkjebaaGreatDoor
open Go.RowKit
open Dig
def RetSl (ds:List Nat) (w:World) (e:Ending) (w':World):Prop:=∃ A c,e = .returned (.slice A ds.length c)∧Row w' (.slice A ds.length c) ds∧Since w w'
theorem RetRow.sl {ds:List Nat} {w:World} {e:Ending} {w':World} (h:RetRow ds w e w'):RetSl ds w e w':=by
 obtain⟨v,rfl,hr,hs⟩:=h
 obtain⟨h1,A,c,rfl,h3,h6⟩:=hr
 exact⟨A,c,rfl,⟨h1,A,c,rfl,h3,h6⟩,hs⟩
theorem Since.cell {a b:World} (h:Since a b) (p:Addr) (hp:p.block<a.heap.size):b.cell? p=a.cell? p:=Below.cell h hp
theorem block_new {w W:World} {o:Obj} (h:Since (w.alloc o) W):W.heap[w.heap.size]?=some o:=by
 rw[h.block w.heap.size (by simp),heap_alloc_new]
theorem keep2 {w W:World} {z0 z1:Value} {t:TypeId} (h:Since (w.alloc (.cells #[z0,z1] t)) W) :
 W.cell? ⟨w.heap.size,0,none⟩=some z0∧W.cell? ⟨w.heap.size,1,none⟩=some z1∧W.frozen? ⟨w.heap.size,0,none⟩=false∧W.frozen? ⟨w.heap.size,1,none⟩=false:=by
 refine⟨?_,?_,?_,?_⟩
 · rw[Below.cell h (by simp)]; simp
 · rw[Below.cell h (by simp)]; simp
 · rw[Below.frozen h (by simp)]; simp
 · rw[Below.frozen h (by simp)]; simp
theorem row_far {W W':World} {b:Nat} {x:Bool} {A:Option Addr} {n c:Nat} {t:TypeId} {fz:Nat × Nat} {v:Value} {ds:List Nat} (h:Row W v ds)
 (hb:W.heap[b]?=some (.cells #[.bool x,.slice A n c] t fz)) (hk:∀ k,k≠b→W'.heap[k]?=W.heap[k]?):Row W' v ds:=by
 obtain⟨h1,A',c',h2,h3,h6⟩:=h
 refine⟨h1,A',c',h2,fun hl => ?_,h6⟩
 obtain⟨g,o,h4,h5⟩:=h3 hl
 refine⟨g,o,h4,fun i hi => ?_⟩
 have hc:=h5 i hi
 have hg:g≠b:=by
  rintro rfl
  have e:W.cell? ⟨g,o+i,none⟩=(#[Value.bool x,.slice A n c]:Array Value)[o+i]?:=cell_of_row W g (o+i) _ t fz hb
  rw[e] at hc
  match o+i,hc with
  | 0,hc=>simp at hc
  | 1,hc=>simp at hc
  | k+2,hc=>simp at hc
 rw[World.cell?_of_block (w:=W) (w':=W') (a:=⟨g,o+i,none⟩) (hk g hg)]
 exact hc
theorem row_set2 {w W:World} {x:Bool} {A:Option Addr} {n c:Nat} {t:TypeId} {v:Value} {ds:List Nat} (h:Row W v ds)
 (hb:Since (w.alloc (.cells #[.bool x,.slice A n c] t)) W) (u0 u1:Value):Row ((W.setCell ⟨w.heap.size,0,none⟩ u0).setCell ⟨w.heap.size,1,none⟩ u1) v ds:=
 row_far h (block_new hb) fun k hk=>by
  rw[Below.heap_setCell _ _ _ _ (by simpa using hk),Below.heap_setCell _ _ _ _ (by simpa using hk)]
theorem since_set2 {w W:World} {o:Obj} (hb:Since (w.alloc o) W) (u0 u1:Value):Since w ((W.setCell ⟨w.heap.size,0,none⟩ u0).setCell ⟨w.heap.size,1,none⟩ u1):=
 (((sA w o).trans hb).set (Nat.le_refl _) _).set (Nat.le_refl _) _
end Go.Proofs.YtjmmcnldfkjebaaGreatDoor
end
section
namespace Go.Proofs.YtjmmcnldfkjebaaGreatDoor.Dig
def rightB (ds:List Nat):Bool:=decide (ds.length≤256) && (decide (ds.length=0) || decide (ds.getD (ds.length - 1) 0≠0))
theorem right_norm {ds:List Nat} (h:rightB ds=true):ds.length≤256∧Norm ds:=by
 simpa [rightB,Norm] using h
theorem right_of {ds:List Nat} (h:ds.length≤256) (n:Norm ds):rightB ds=true:=by
 simpa [rightB,Norm] using And.intro h n
def uintD (xs:List Nat):Nat × Int:=if rightB xs=true then (if 2<xs.length then (0,4) else (num xs,0)) else (0,2)
theorem digs_len_mono {a b:Nat} (h:a≤b):(digs a).length≤(digs b).length:=by
 apply digs_len_le
 have:=num_lt (isDig_digs b)
 rw[num_digs] at this
 omega
theorem digs_len_num {xs:List Nat} (h:IsDig xs):(digs (num xs)).length≤xs.length:=digs_len_le (num_lt h)
theorem num_pos {ys:List Nat} (h:Norm ys) (hl:ys.length≠0):0<num ys:=by
 rcases h with h | h
 · exact absurd h hl
 · rw[num_at (j:=ys.length - 1) (by omega)]
   have:4294967296 ^ (ys.length - 1)*1≤4294967296 ^ (ys.length - 1)*(ys.getD (ys.length - 1) 0+4294967296*num (ys.drop (ys.length - 1+1))):=Nat.mul_le_mul_left _ (by omega)
   have:=Nat.pow_pos (n:=ys.length - 1) (show 0<4294967296 by omega)
   omega
theorem norm_len_le {xs ys:List Nat} (hx:IsDig xs) (ny:Norm ys) (h:num ys≤num xs):ys.length≤xs.length:=by
 rcases Nat.lt_or_ge xs.length ys.length with hl | hl
 · have:=len_less hx ny hl; omega
 · exact hl
end Go.Proofs.YtjmmcnldfkjebaaGreatDoor.Dig
namespace Go.Proofs.YtjmmcnldfkjebaaGreatDoor.Ref02
open Dig
theorem prod_len {xs ys:List Nat} (hx:IsDig xs) (hy:IsDig ys):(digs (num xs*num ys)).length≤xs.length+ys.length:=by
 apply digs_len_le
 rw[Nat.pow_add]
 have h1:=num_lt hx
 have h2:=num_lt hy
 rcases Nat.eq_zero_or_pos (num ys) with h | h
 · rw[h,Nat.mul_zero]; exact Nat.mul_pos (Nat.pow_pos (by omega)) (Nat.pow_pos (by omega))
 · exact Nat.lt_of_lt_of_le (Nat.mul_lt_mul_of_pos_right h1 h) (Nat.mul_le_mul_left _ (Nat.le_of_lt h2))
end Go.Proofs.YtjmmcnldfkjebaaGreatDoor.Ref02
namespace Go.Proofs.YtjmmcnldfkjebaaGreatDoor.Ref02
open Dig
theorem num_drop {ds:List Nat} {j:Nat} (h:j<ds.length):num (ds.drop j)=ds.getD j 0+4294967296*num (ds.drop (j+1)):=by
 rw[drop_one h,num]
theorem num_short {ds:List Nat} (hd:IsDig ds) (h:ds.length≤2) (j:Nat):num (ds.drop j)<18446744073709551616∧(1≤j→num (ds.drop j)<4294967296):=by
 have h1:=num_lt (fun d hx=>hd d (List.mem_of_mem_drop hx):IsDig (ds.drop j))
 rw[List.length_drop] at h1
 refine⟨Nat.lt_of_lt_of_le h1 (Nat.le_trans (Nat.pow_le_pow_right (j:=2) (by omega) (by omega)) (by decide)),fun hj=>Nat.lt_of_lt_of_le h1 (Nat.le_trans (Nat.pow_le_pow_right (j:=1) (by omega) (by omega)) (by decide))⟩
end Go.Proofs.YtjmmcnldfkjebaaGreatDoor.Ref02
end
section
namespace Go.Proofs.YtjmmcnldfkjebaaGreatDoor.Dig
def undec (bs:List UInt8):Nat:=bs.foldl (fun n b=>10*n+(b.toNat - 48)) 0
theorem undec_snoc (bs:List UInt8) (b:UInt8):undec (bs ++ [b])=10*undec bs+(b.toNat - 48):=by simp[undec]
end Go.Proofs.YtjmmcnldfkjebaaGreatDoor.Dig
end
section
namespace Go.Proofs.YtjmmcnldfkjebaaGreatDoor.Ref03
open Go.RowKit
open Dig
abbrev sv (neg:Bool) (m:Value):Value:=.agg #[.bool neg,m]
def srightB (neg:Bool) (ds:List Nat):Bool:=rightB ds && !(neg && decide (ds.length=0))
def signB (neg:Bool) (ds:List Nat):Bool:=neg && decide (0<ds.length)
def RetS (neg:Bool) (ds:List Nat) (w:World) (e:Ending) (w':World):Prop:=∃ A c,e = .returned (sv neg (.slice A ds.length c))∧Row w' (.slice A ds.length c) ds∧Since w w'
def RetSErr (neg:Bool) (ds:List Nat) (x:Int) (w:World) (e:Ending) (w':World):Prop:=∃ A c,e = .returned (.tuple #[sv neg (.slice A ds.length c),.int .i64 x])∧Row w' (.slice A ds.length c) ds∧Since w w'
def sval (neg:Bool) (ds:List Nat):Int:=if neg=true then -(num ds:Int) else (num ds:Int)
def ngB (z:Int):Bool:=decide (z<0)
def mag (z:Int):List Nat:=digs z.natAbs
theorem mag_len (z:Int):(decide (0<(mag z).length))=decide (z≠0):=by
 by_cases h:z=0
 · subst h; rfl
 · have:z.natAbs≠0:=by omega
   rw[mag,digs_pos this]; simp[h]
theorem sign_mag (z:Int) (b:Bool) (h:z≠0→b=ngB z):signB b (mag z)=ngB z:=by
 rw[signB,mag_len]
 by_cases h0:z=0
 · subst h0; simp[ngB]
 · rw[h h0]; simp[h0]
theorem hold2 {w W:World} {na nb:Bool} {ma mb:Value} {t:TypeId} {o:Obj} (h:Since (((w.alloc (.cells #[.bool na,ma] t)).alloc (.cells #[.bool nb,mb] t)).alloc o) W) :
 W.cell? ⟨w.heap.size,0,none⟩=some (.bool na)∧W.cell? ⟨w.heap.size,1,none⟩=some ma∧W.cell? ⟨w.heap.size+1,0,none⟩=some (.bool nb)∧W.cell? ⟨w.heap.size+1,1,none⟩=some mb:=by
 refine⟨?_,?_,?_,?_⟩
 · rw[h.cell ⟨w.heap.size,0,none⟩ (by simp <;> omega)]; go_simp
 · rw[h.cell ⟨w.heap.size,1,none⟩ (by simp <;> omega)]; go_simp
 · rw[h.cell ⟨w.heap.size+1,0,none⟩ (by simp <;> omega)]; go_simp
 · rw[h.cell ⟨w.heap.size+1,1,none⟩ (by simp <;> omega)]; go_simp
theorem keep3 {w W:World} {o1 o2:Obj} {z0 z1:Value} {t:TypeId} (h:Since (((w.alloc o1).alloc o2).alloc (.cells #[z0,z1] t)) W) :
 W.cell? ⟨w.heap.size+1+1,0,none⟩=some z0∧W.cell? ⟨w.heap.size+1+1,1,none⟩=some z1∧W.frozen? ⟨w.heap.size+1+1,0,none⟩=false∧W.frozen? ⟨w.heap.size+1+1,1,none⟩=false:=by
 have h2:=keep2 h
 have e:((w.alloc o1).alloc o2).heap.size=w.heap.size+1+1:=by simp
 rw[e] at h2
 exact h2
theorem row_set3 {w W:World} {o1 o2:Obj} {x:Bool} {A:Option Addr} {n c:Nat} {t:TypeId} {v:Value} {ds:List Nat} (h:Row W v ds)
 (hb:Since (((w.alloc o1).alloc o2).alloc (.cells #[.bool x,.slice A n c] t)) W) (u0 u1:Value):Row ((W.setCell ⟨w.heap.size+1+1,0,none⟩ u0).setCell ⟨w.heap.size+1+1,1,none⟩ u1) v ds:=by
 have h2:=row_set2 h hb u0 u1
 have e:((w.alloc o1).alloc o2).heap.size=w.heap.size+1+1:=by simp
 rw[e] at h2
 exact h2
theorem sum_lt {a b k:Nat} (h1:a<4294967296 ^ k) (h2:b<4294967296 ^ k):a+b<4294967296 ^ (k+1):=by
 have:(4294967296:Nat) ^ (k+1)=4294967296 ^ k*4294967296:=Nat.pow_succ ..
 omega
def RetZ (r:(Bool × List Nat) × Int) (w:World) (e:Ending) (w':World):Prop:=RetSErr r.1.1 r.1.2 r.2 w e w'
theorem sright_right {neg:Bool} {ds:List Nat} (h:srightB neg ds=true):rightB ds=true:=by
 simp[srightB] at h; exact h.1
theorem keep2of {w W:World} {o:Obj} {z0 z1:Value} {t:TypeId} (h:Since ((w.alloc o).alloc (.cells #[z0,z1] t)) W) :
 W.cell? ⟨w.heap.size+1,0,none⟩=some z0∧W.cell? ⟨w.heap.size+1,1,none⟩=some z1∧W.frozen? ⟨w.heap.size+1,0,none⟩=false∧W.frozen? ⟨w.heap.size+1,1,none⟩=false:=by
 have h2:=keep2 h
 have e:(w.alloc o).heap.size=w.heap.size+1:=by simp
 rw[e] at h2
 exact h2
theorem row_set2of {w W:World} {o1:Obj} {x:Bool} {A:Option Addr} {n c:Nat} {t:TypeId} {v:Value} {ds:List Nat} (h:Row W v ds)
 (hb:Since ((w.alloc o1).alloc (.cells #[.bool x,.slice A n c] t)) W) (u0 u1:Value):Row ((W.setCell ⟨w.heap.size+1,0,none⟩ u0).setCell ⟨w.heap.size+1,1,none⟩ u1) v ds:=by
 have h2:=row_set2 h hb u0 u1
 have e:(w.alloc o1).heap.size=w.heap.size+1:=by simp
 rw[e] at h2
 exact h2
theorem since_set2of {w W:World} {o1 o2:Obj} (h:Since ((w.alloc o1).alloc o2) W) (u0 u1:Value):Since w ((W.setCell ⟨w.heap.size+1,0,none⟩ u0).setCell ⟨w.heap.size+1,1,none⟩ u1):=
 (((((Since.refl w).alloc _).alloc _).trans h).set (by show w.heap.size≤w.heap.size+1; omega) _).set (by show w.heap.size≤w.heap.size+1; omega) _
theorem sval_abs (neg:Bool) (ds:List Nat):(sval neg ds).natAbs=num ds:=by
 unfold sval; cases neg <;> simp
theorem sright_pos {ds:List Nat} (h:srightB true ds=true):0<num ds:=by
 have h1:=sright_right h
 have h2:ds.length≠0:=by
  intro h0
  have:ds = []:=List.eq_nil_of_length_eq_zero h0
  subst this; simp[srightB] at h
 exact num_pos (right_norm h1).2 h2
def negZ (na:Bool) (xs:List Nat):(Bool × List Nat) × Int:=if srightB na xs=true then ((ngB (-(sval na xs)),mag (-(sval na xs))),0) else ((false,[]),2)
theorem hold1of {w W:World} {na:Bool} {ma:Value} {t:TypeId} {o:Obj} (h:Since ((w.alloc (.cells #[.bool na,ma] t)).alloc o) W) :
 W.cell? ⟨w.heap.size,0,none⟩=some (.bool na)∧W.cell? ⟨w.heap.size,1,none⟩=some ma:=by
 refine⟨?_,?_⟩
 · rw[h.cell ⟨w.heap.size,0,none⟩ (by simp <;> omega)]; go_simp
 · rw[h.cell ⟨w.heap.size,1,none⟩ (by simp <;> omega)]; go_simp
theorem hold1 {w W:World} {na:Bool} {ma:Value} {t:TypeId} (h:Since (w.alloc (.cells #[.bool na,ma] t)) W) :
 W.cell? ⟨w.heap.size,0,none⟩=some (.bool na)∧W.cell? ⟨w.heap.size,1,none⟩=some ma:=⟨(keep2 h).1,(keep2 h).2.1⟩
def fitsI (z:Int):Prop:=-9223372036854775808≤z∧z≤9223372036854775807
instance (z:Int):Decidable (fitsI z):=by unfold fitsI; exact inferInstance
def smallZ (na:Bool) (xs:List Nat):Int × Int:=if srightB na xs=true then (if fitsI (sval na xs) then (sval na xs,0) else (0,4)) else (0,2)
theorem num_long {xs:List Nat} (dx:IsDig xs) (nx:Norm xs) (h:2<xs.length):18446744073709551616≤num xs:=by
 apply Decidable.byContradiction
 intro hn
 have h1:=digs_len_le (n:=num xs) (k:=2) (by omega)
 rw[digs_num dx nx] at h1
 omega
end Go.Proofs.YtjmmcnldfkjebaaGreatDoor.Ref03
end
section
namespace Go.Proofs.YtjmmcnldfkjebaaGreatDoor.Bk
open Go.RowKit
open Dig
open Ref03
theorem sval_mag (n:Int):sval (ngB n) (mag n)=n:=by
 unfold sval ngB mag
 rw[num_digs]
 by_cases h:n<0 <;> simp[h] <;> omega
theorem right_mag {n:Int} (h:(mag n).length≤256):srightB (ngB n) (mag n)=true:=by
 unfold srightB
 rw[right_of h (norm_digs _)]
 by_cases h0:n=0
 · subst h0; rfl
 · have e:=mag_len n
   have:(mag n).length≠0:=by
    intro hz; rw[hz] at e; simp[h0] at e
   simp[this]
end Go.Proofs.YtjmmcnldfkjebaaGreatDoor.Bk
end
section
namespace Go.Proofs.YtjmmcnldfkjebaaGreatDoor
open Go.RowKit
open Dig
def Bx (W:World) (b:Nat) (cs:Array Value) (t:TypeId):Prop:=W.heap[b]?=some (.cells cs t)
theorem Bx.lt {W:World} {b:Nat} {cs:Array Value} {t:TypeId} (h:Bx W b cs t):b<W.heap.size:=by
 unfold Bx at h
 apply Decidable.byContradiction; intro hn
 rw[Array.getElem?_eq_none (by omega)] at h; cases h
theorem Bx.since {W W':World} {b:Nat} {cs:Array Value} {t:TypeId} (h:Bx W b cs t) (k:Since W W'):Bx W' b cs t:=by
 have hl:=h.lt
 unfold Bx at *
 rw[k.block b hl]; exact h
theorem Bx.fresh (W:World) (cs:Array Value) (t:TypeId):Bx (W.alloc (.cells cs t)) W.heap.size cs t:=block_new (Since.refl _)
theorem Bx.new {W W':World} {cs:Array Value} {t:TypeId} {n:Nat} (k:Since (W.alloc (.cells cs t)) W') (e:W.heap.size=n):Bx W' n cs t:=e ▸ (Bx.fresh W cs t).since k
theorem Bx.cell {W:World} {b:Nat} {cs:Array Value} {t:TypeId} (h:Bx W b cs t) (i:Nat):W.cell? ⟨b,i,none⟩=cs[i]?:=cell_of_row W b i cs t (0,0) h
theorem Bx.no {W:World} {b:Nat} {cs:Array Value} {t:TypeId} (h:Bx W b cs t) (i:Nat):W.frozen? ⟨b,i,none⟩=false:=by
 unfold Bx at h
 simp[World.frozen?,h]
abbrev plainV:Value→Bool
 | .int .u32 _=>false
 | _=>true
theorem Bx.other {W:World} {b b':Nat} {cs:Array Value} {t:TypeId} (h:Bx W b cs t) (hb:b≠b') (i:Nat) (u:Value):Bx (W.setCell ⟨b',i,none⟩ u) b cs t:=by
 unfold Bx at *
 rw[Below.heap_setCell _ _ _ _ (by simpa using hb)]; exact h
theorem Bx.two {W:World} {b:Nat} {z0 z1:Value} {t:TypeId} (h:Bx W b #[z0,z1] t):W.cell? ⟨b,0,none⟩=some z0∧W.cell? ⟨b,1,none⟩=some z1:=⟨h.cell 0,h.cell 1⟩
theorem Bx.four {W:World} {b:Nat} {z0 z1 z2 z3:Value} {t:TypeId} (h:Bx W b #[z0,z1,z2,z3] t) :
 W.cell? ⟨b,0,none⟩=some z0∧W.cell? ⟨b,1,none⟩=some z1∧W.cell? ⟨b,2,none⟩=some z2∧W.cell? ⟨b,3,none⟩=some z3:=⟨h.cell 0,h.cell 1,h.cell 2,h.cell 3⟩
theorem Bx.two' {W:World} {b:Nat} {z0 z1:Value} {t:TypeId} (h:Bx W b #[z0,z1] t):W.frozen? ⟨b,0,none⟩=false∧W.frozen? ⟨b,1,none⟩=false:=⟨h.no 0,h.no 1⟩
theorem Bx.four' {W:World} {b:Nat} {z0 z1 z2 z3:Value} {t:TypeId} (h:Bx W b #[z0,z1,z2,z3] t) :
 W.frozen? ⟨b,0,none⟩=false∧W.frozen? ⟨b,1,none⟩=false∧W.frozen? ⟨b,2,none⟩=false∧W.frozen? ⟨b,3,none⟩=false:=⟨h.no 0,h.no 1,h.no 2,h.no 3⟩
theorem Bx.rows {W W':World} {b:Nat} {cs:Array Value} {t:TypeId} (h:Bx W b cs t) (hp:cs.all plainV=true) {v:Value} {ds:List Nat} (hr:Row W v ds) (hk:∀ k,k≠b→W'.heap[k]?=W.heap[k]?):Row W' v ds:=by
 obtain⟨h1,A,c,h2,h3,h6⟩:=hr
 refine⟨h1,A,c,h2,fun hl => ?_,h6⟩
 obtain⟨g,o,h4,h5⟩:=h3 hl
 refine⟨g,o,h4,fun j hj => ?_⟩
 have hc:=h5 j hj
 have hg:g≠b:=by
  rintro rfl
  rw[h.cell] at hc
  have:=Array.all_eq_true_iff_forall_mem.1 hp _ (Array.mem_of_getElem? hc)
  simp[plainV] at this
 rw[World.cell?_of_block (w:=W) (w':=W') (a:=⟨g,o+j,none⟩) (hk g hg)]
 exact hc
theorem Bx.rowsI {W W':World} {b:Nat} {s:Bool} {A:Option Addr} {n c:Nat} {t:TypeId} (h:Bx W b #[.bool s,.slice A n c] t) {v:Value} {ds:List Nat} (hr:Row W v ds) (hk:∀ k,k≠b→W'.heap[k]?=W.heap[k]?):Row W' v ds:=h.rows (by simp[plainV]) hr hk
abbrev put2 (W:World) (b:Nat) (u0 u1:Value):World:=(W.setCell ⟨b,0,none⟩ u0).setCell ⟨b,1,none⟩ u1
abbrev put4 (W:World) (b:Nat) (u0 u1 u2 u3:Value):World:=(((W.setCell ⟨b,0,none⟩ u0).setCell ⟨b,1,none⟩ u1).setCell ⟨b,2,none⟩ u2).setCell ⟨b,3,none⟩ u3
theorem put2_far (W:World) (b:Nat) (u0 u1:Value) (k:Nat) (h:k≠b):(put2 W b u0 u1).heap[k]?=W.heap[k]?:=by
 rw[Below.heap_setCell _ _ _ _ (by simpa using h),Below.heap_setCell _ _ _ _ (by simpa using h)]
theorem Bx.put2 {W:World} {b:Nat} {z0 z1:Value} {t:TypeId} (h:Bx W b #[z0,z1] t) (u0 u1:Value):Bx (put2 W b u0 u1) b #[u0,u1] t:=by
 have h1:=heap_setCell_same W b 0 _ t u0 h
 exact heap_setCell_same _ b 1 _ t u1 h1
theorem Bx.put4 {W:World} {b:Nat} {z0 z1 z2 z3:Value} {t:TypeId} (h:Bx W b #[z0,z1,z2,z3] t) (u0 u1 u2 u3:Value):Bx (put4 W b u0 u1 u2 u3) b #[u0,u1,u2,u3] t:=by
 have h1:=heap_setCell_same W b 0 _ t u0 h
 have h2:=heap_setCell_same _ b 1 _ t u1 h1
 have h3:=heap_setCell_same _ b 2 _ t u2 h2
 exact heap_setCell_same _ b 3 _ t u3 h3
theorem since_put2 {w W:World} {b:Nat} (h:Since w W) (hb:w.heap.size≤b) (u0 u1:Value):Since w (put2 W b u0 u1):=(h.set hb _).set hb _
theorem since_put4 {w W:World} {b:Nat} (h:Since w W) (hb:w.heap.size≤b) (u0 u1 u2 u3:Value):Since w (put4 W b u0 u1 u2 u3):=(((h.set hb _).set hb _).set hb _).set hb _
end Go.Proofs.YtjmmcnldfkjebaaGreatDoor
end
