/- Layer 11 (sense), pure: what the document says of constraints, as its own functions say it. -/
import Derived.Test.YtakfabaocgbbmaaKh
namespace Go.Proofs.Ytakfabaocgbbmaa.Sn
set_option linter.unusedVariables false
open Zs
theorem max_first (r:List Tk3) (h:r ≠ []):∃ p ∈ r,∀ q ∈ r,q.1≤p.1:=by
 induction r with
 | nil=>exact absurd rfl h
 | cons x r ih =>
  by_cases e:r = []
  · subst e
    exact⟨x,by simp,fun q hq=>by simp at hq; subst hq; exact Int.le_refl _⟩
  · obtain⟨p,hp,hm⟩:=ih e
    by_cases c:x.1≤p.1
    · exact⟨p,List.mem_cons_of_mem _ hp,fun q hq=>by
       rcases List.mem_cons.1 hq with rfl | hq
       · exact c
       · exact hm q hq⟩
    · exact⟨x,List.mem_cons_self,fun q hq=>by
       rcases List.mem_cons.1 hq with rfl | hq
       · exact Int.le_refl _
       · have:=hm q hq; omega⟩
theorem ld_mono {l:List Tk3} {t u:Int} (h:∀ q ∈ l,ldE t q≤ldE u q):ld l t≤ld l u:=by
 induction l with
 | nil=>exact Int.le_refl _
 | cons p l ih =>
  rw[ld,ld]
  have h1:=h p List.mem_cons_self
  have h2:=ih fun q hq=>h q (List.mem_cons_of_mem _ hq)
  omega
theorem ld_peak {l:List Tk3} (hn:∀ q ∈ l,0≤q.2.2) (t:Int):ld l t=0∨∃ p ∈ l,0<p.2.1∧ld l t≤ld l p.1:=by
 by_cases e:l.filter (fun p=>decide (p.1≤t∧t<p.1+p.2.1)) = []
 · left
   have hz:∀ q ∈ l,ldE t q=0:=fun q hq=>by
    have:=List.filter_eq_nil_iff.1 e q hq
    simp only[decide_eq_true_eq] at this
    rw[ldE,if_neg this]
   clear e hn
   induction l with
   | nil=>rfl
   | cons p l ih=>rw[ld,hz p List.mem_cons_self,ih fun q hq=>hz q (List.mem_cons_of_mem _ hq)]; rfl
 · right
   obtain⟨p,hp,hm⟩:=max_first _ e
   obtain⟨hp1,hp2⟩:=List.mem_filter.1 hp
   simp only[decide_eq_true_eq] at hp2
   refine⟨p,hp1,by omega,ld_mono fun q hq => ?_⟩
   have h0:=hn q hq
   simp only[ldE]
   by_cases c:q.1≤t∧t<q.1+q.2.1
   · have:=hm q (List.mem_filter.2 ⟨hq,by simpa using c⟩)
     rw[if_pos c,if_pos (by omega)]; exact Int.le_refl _
   · rw[if_neg c]; split <;> omega
def tasksV (v a:List Int) (c:Int):Bool:=allI v.length fun i => !(decide (0<a.getD i 0) && decide (c<ld (tks v a) (v.getD i 0)))
theorem tks_get {v a:List Int} (h:a.length=2*v.length) {i:Nat} (hi:i<v.length):(tks v a)[i]?=some (v.getD i 0,a.getD i 0,a.getD (v.length+i) 0):=by
 have h1:i<a.length:=by omega
 have h2:v.length+i<a.length:=by omega
 simp[tks,List.getD,List.getElem?_zip_eq_some,hi,h1,h2]
theorem tasks_never {v a:List Int} {c:Int} (h:a.length=2*v.length) (hc:0≤c) (ha:∀ n ∈ a,0≤n):tasksV v a c=never v a c:=by
 have hl:(tks v a).length=v.length:=by simp[tks]; omega
 have hget:∀ p ∈ tks v a,∃ i,i<v.length∧p=(v.getD i 0,a.getD i 0,a.getD (v.length+i) 0):=fun p hp=>by
  obtain⟨i,hi,e⟩:=List.mem_iff_getElem.1 hp
  have hi':i<v.length:=by omega
  have:=tks_get h hi'
  rw[List.getElem?_eq_getElem hi] at this
  exact⟨i,hi',by rw[← e]; exact Option.some.inj this⟩
 have hnn:∀ i,0≤a.getD i 0:=fun i=>by
  by_cases hi:i<a.length
  · rw[show a.getD i 0=a[i] by simp[List.getD,hi]]; exact ha _ (List.getElem_mem hi)
  · rw[show a.getD i 0=0 by simp[List.getD,hi]]; omega
 rw[Bool.eq_iff_iff,tasksV,never,allI_iff,allI_iff]
 constructor
 · intro hh i hi
   refine decide_eq_true ?_
   rcases ld_peak (l:=tks v a) (fun q hq=>by obtain⟨i,_,rfl⟩:=hget q hq; exact hnn _) (v.getD i 0) with e | ⟨p,hp,h1,h2⟩
   · omega
   · obtain⟨j,hj,rfl⟩:=hget p hp
     have:=hh j hj
     simp only[Bool.not_eq_true',Bool.and_eq_false_iff,decide_eq_false_iff_not] at this
     rcases this with h3 | h3
     · exact absurd h1 h3
     · simp only at h2; omega
 · intro hh i hi
   have:=of_decide_eq_true (hh i hi)
   simp only[Bool.not_eq_true',Bool.and_eq_false_iff,decide_eq_false_iff_not]
   right; omega
theorem count_nodup (v:List Int):v.Pairwise (· ≠ ·)↔∀ x ∈ v,v.count x≤1:=by
 induction v with
 | nil=>simp
 | cons y v ih =>
  rw[List.pairwise_cons,ih]
  constructor
  · rintro⟨h1,h2⟩ x hx
    rw[List.count_cons]
    by_cases e:y=x
    · subst e
      have:v.count y=0:=List.count_eq_zero.2 fun hm=>h1 y hm rfl
      simp[this]
    · have e2:(y == x)=false:=by simpa using e
      rw[e2]
      rcases List.mem_cons.1 hx with rfl | hx
      · exact absurd rfl e
      · have:=h2 x hx; simp; exact this
  · intro h
    refine⟨fun x hx e => ?_,fun x hx => ?_⟩
    · subst e
      have h1:=h y List.mem_cons_self
      rw[List.count_cons] at h1
      have h2:0<v.count y:=List.count_pos_iff.2 hx
      simp at h1; omega
    · have h1:=h x (List.mem_cons_of_mem _ hx)
      rw[List.count_cons] at h1; omega
def unlikeV (v:List Int):Bool:=v.all fun x=>decide (v.count x≤1)
theorem unlike_differ (v:List Int):unlikeV v=differ v:=by
 rw[Bool.eq_iff_iff,differ_nodup,count_nodup,unlikeV,List.all_eq_true]
 exact⟨fun h x hx=>of_decide_eq_true (h x hx),fun h x hx=>decide_eq_true (h x hx)⟩
theorem bit_iff (x:Int):bit x=true↔x=0∨x=1:=by simp only[bit,Bool.and_eq_true,decide_eq_true_eq]; omega
theorem count_all {v:List Int} (h:∀ x ∈ v,x=0∨x=1):(v.count 1 == v.length) = !v.contains 0:=by
 induction v with
 | nil=>rfl
 | cons y v ih =>
  have hi:=ih fun x hx=>h x (List.mem_cons_of_mem _ hx)
  have hle:v.count 1≤v.length:=List.count_le_length
  rcases h y List.mem_cons_self with rfl | rfl
  · simp; omega
  · simp at hi ⊢
    rw[hi]
theorem count_some (v:List Int):decide (0<v.count 1)=v.contains 1:=by
 rw[Bool.eq_iff_iff,decide_eq_true_eq,List.count_pos_iff,List.contains_iff_mem]
def clauseE (p:Int × Int):Bool:=(decide (p.1=1) && decide (p.2=1)) || (decide (p.1 = -1) && decide (p.2=0))
theorem clause_lits {a v:List Int} (ha:a.all (okE 11)=true) (hv:v.all bit=true):(a.zip v).any clauseE=lits a v:=by
 rw[lits]
 induction a generalizing v with
 | nil=>rfl
 | cons x a ih =>
  cases v with
  | nil=>rfl
  | cons y v =>
   rw[List.all_cons,Bool.and_eq_true] at ha hv
   rw[List.zip_cons_cons,List.any_cons,List.any_cons,ih ha.2 hv.2]
   congr 1
   have h1:=ha.1
   simp only[okE,Bool.not_eq_true',Bool.or_eq_false_iff,Bool.and_eq_false_iff,decide_eq_false_iff_not] at h1
   have h2:x=1∨x = -1:=by
    rcases h1.1 with h | h
    · rcases h with h | h <;> simp at h; exact Or.inl h
    · simp at h; exact Or.inr h
   rcases (bit_iff y).1 hv.1 with rfl | rfl <;> rcases h2 with rfl | rfl <;> rfl
end Go.Proofs.Ytakfabaocgbbmaa.Sn
