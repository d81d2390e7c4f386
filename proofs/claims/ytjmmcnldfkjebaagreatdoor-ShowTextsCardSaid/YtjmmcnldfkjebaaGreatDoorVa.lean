/- Layer 5 (lex), as plain functions. No Go in sight. Layer 5 (lex): two texts, joined tokens, places; of plain f -/
import Derived.Laws.OwnMore
import Derived.Test.YtjmmcnldfkjebaaGreatDoorQab
namespace Go.Proofs.YtjmmcnldfkjebaaGreatDoor.Lx
open Dig
set_option linter.unusedVariables false
set_option linter.unusedSimpArgs false
abbrev Bs:=List UInt8
def letterB (c:UInt8):Bool:=decide (97≤c.toNat∧c.toNat≤122) || decide (65≤c.toNat∧c.toNat≤90) || decide (c.toNat=95)
def digB (c:UInt8):Bool:=decide (48≤c.toNat∧c.toNat≤57)
def whiteB (c:UInt8):Bool:=decide (c.toNat=32∨c.toNat=9∨c.toNat=10∨c.toNat=13)
def signB (c:UInt8):Bool:=decide (c.toNat=58∨c.toNat=123∨c.toNat=125∨c.toNat=91∨c.toNat=93∨c.toNat=40∨c.toNat=41∨c.toNat=44∨c.toNat=59∨c.toNat=61)
def wordB (c:UInt8):Bool:=letterB c || digB c
def blk:Bool→Bs→Nat
 | _,[]=>0
 | true,c :: t=>if c.toNat=10 then 1+blk false t else 1+blk true t
 | false,c :: t=>if c.toNat=37 then 1+blk true t else if whiteB c=true then 1+blk false t else 0
def run (p:UInt8→Bool):Bs→Nat
 | []=>0
 | c :: t=>if p c=true then 1+run p t else 0
def word:Bs→Nat × Nat
 | []=>(0,0)
 | c :: t =>
  if letterB c=true then (1,1+run wordB t)
  else if digB c=true then (2,1+run digB t)
  else if c.toNat=45∧0<run digB t then (2,1+run digB t)
  else if (c.toNat=58∨c.toNat=46)∧t.head?=some c then (3,2)
  else if signB c=true then (3,1)
  else (0,0)
def intD (l:Bs):Int:=if l.head?=some 45 then -(undec l.tail:Int) else undec l
def fits (v:Int):Prop:=-9223372036854775808≤v∧v<9223372036854775808
instance (v:Int):Decidable (fits v):=by unfold fits; infer_instance
structure Tok where
 kind:Nat
 txt:Bs
 val:Int
 at_:Nat
def tokD (l:Bs) (at_:Nat):Tok:=⟨(word l).1,l.take (word l).2,if (word l).1=2 then intD (l.take (word l).2) else 0,at_⟩
def next (l:Bs):Nat:=(word l).2+blk false (l.drop (word l).2)
def lexG:Nat→Bs→Nat→List Tok→List Tok × Nat × Int
 | 0,_,_,out=>(out,0,0)
 | f+1,l,i,out =>
  if l.length=0 then (out,0,0)
  else if out.length=4096 then ([],i,3)
  else if (word l).1=0 then ([],i,5)
  else if (word l).1=2∧¬ fits (intD (l.take (word l).2)) then ([],i,4)
  else lexG f (l.drop (next l)) (i+next l) (out ++ [tokD l i])
def lexA (s:Bs) (i:Nat) (out:List Tok):List Tok × Nat × Int:=lexG (s.length+1) (s.drop i) i out
def splitD (s:Bs):List Tok × Nat × Int:=if 8192<s.length then ([],0,3) else lexA s (blk false s) []
theorem blk_le:∀ (b:Bool) (l:Bs),blk b l≤l.length
 | _,[]=>by simp[blk]
 | true,c :: t=>by
  have h1:=blk_le false t; have h2:=blk_le true t
  simp only[blk,List.length_cons]; split <;> omega
 | false,c :: t=>by
  have h1:=blk_le false t; have h2:=blk_le true t
  simp only[blk,List.length_cons]; split
  · omega
  · split <;> omega
theorem run_le (p:UInt8→Bool):∀ l:Bs,run p l≤l.length
 | []=>by simp[run]
 | c :: t=>by
  have:=run_le p t
  simp only[run,List.length_cons]; split <;> omega
theorem head_len {l:Bs} {c:UInt8} (h:l.head?=some c):0<l.length:=by
 cases l with
 | nil=>simp at h
 | cons a t=>simp
theorem word_le (l:Bs):(word l).2≤l.length:=by
 cases l with
 | nil=>simp[word]
 | cons c t =>
  have h1:=run_le wordB t; have h2:=run_le digB t
  simp only[word,List.length_cons]
  split
  · simp only; omega
  split
  · simp only; omega
  split
  · simp only; omega
  split
  · rename_i h; have:=head_len h.2; simp only; omega
  split <;> simp only <;> omega
theorem word_pos {l:Bs} (h:(word l).1≠0):0<(word l).2∧0<l.length:=by
 cases l with
 | nil=>simp[word] at h
 | cons c t =>
  refine⟨?_,by simp⟩
  simp only[word] at h ⊢
  split
  · simp only; omega
  split
  · simp only; omega
  split
  · simp only; omega
  split
  · simp only; omega
  split
  · simp only; omega
  · rename_i h1 h2 h3 h4 h5
    rw[if_neg h1,if_neg h2,if_neg h3,if_neg h4,if_neg h5] at h
    exact absurd rfl h
theorem word_kind (l:Bs):(word l).1≤3:=by
 cases l with
 | nil=>simp[word]
 | cons c t =>
  simp only[word]
  split
  · simp only; omega
  split
  · simp only; omega
  split
  · simp only; omega
  split
  · simp only; omega
  split <;> simp only <;> omega
theorem next_le (l:Bs):next l≤l.length:=by
 have h1:=word_le l
 have h2:=blk_le false (l.drop (word l).2)
 rw[List.length_drop] at h2
 unfold next; omega
theorem next_pos {l:Bs} (h:(word l).1≠0):0<next l:=by
 have:=(word_pos h).1
 unfold next; omega
theorem lexG_fuel:∀ (f g:Nat) (l:Bs) (i:Nat) (out:List Tok),l.length<f→l.length<g→lexG f l i out=lexG g l i out:=by
 intro f
 induction f with
 | zero=>intro g l i out h; omega
 | succ f ih =>
  intro g l i out hf hg
  obtain⟨g,rfl⟩:∃ k,g=k+1:=⟨g - 1,by omega⟩
  simp only[lexG]
  split
  · rfl
  split
  · rfl
  split
  · rfl
  split
  · rfl
  · rename_i h0 h1 h2 h3
    have:=next_pos h2
    apply ih
    · rw[List.length_drop]; omega
    · rw[List.length_drop]; omega
theorem lexA_end {s:Bs} {i:Nat} {out:List Tok} (h:s.length≤i):lexA s i out=(out,0,0):=by
 rw[lexA,lexG,if_pos (by rw[List.length_drop]; omega)]
theorem lexA_big {s:Bs} {i:Nat} {out:List Tok} (h:i<s.length) (ho:out.length=4096):lexA s i out=([],i,3):=by
 rw[lexA,lexG,if_neg (by rw[List.length_drop]; omega),if_pos ho]
theorem lexA_form {s:Bs} {i:Nat} {out:List Tok} (h:i<s.length) (ho:out.length≠4096) (hw:(word (s.drop i)).1=0):lexA s i out=([],i,5):=by
 rw[lexA,lexG,if_neg (by rw[List.length_drop]; omega),if_neg ho,if_pos hw]
theorem lexA_over {s:Bs} {i:Nat} {out:List Tok} (h:i<s.length) (ho:out.length≠4096) (hw:(word (s.drop i)).1=2) (hv:¬ fits (intD ((s.drop i).take (word (s.drop i)).2))):lexA s i out=([],i,4):=by
 rw[lexA,lexG,if_neg (by rw[List.length_drop]; omega),if_neg ho,if_neg (by omega),if_pos ⟨hw,hv⟩]
theorem lexA_step {s:Bs} {i:Nat} {out:List Tok} (h:i<s.length) (ho:out.length≠4096) (hw:(word (s.drop i)).1≠0) (hv:(word (s.drop i)).1=2→fits (intD ((s.drop i).take (word (s.drop i)).2))) :
 lexA s i out=lexA s (i+next (s.drop i)) (out ++ [tokD (s.drop i) i]):=by
 rw[lexA,lexG,if_neg (by rw[List.length_drop]; omega),if_neg ho,if_neg hw,if_neg (by rintro⟨h1,h2⟩; exact h2 (hv h1)),lexA,List.drop_drop]
 have:=next_pos hw
 apply lexG_fuel <;> rw[List.length_drop] <;> omega
inductive Lexes:Bs→Nat→List Tok→Prop
 | done (i:Nat):Lexes [] i []
 | tok {l:Bs} {i:Nat} {ts:List Tok} (hw:(word l).1≠0) (hv:(word l).1=2→fits (intD (l.take (word l).2))) (h:Lexes (l.drop (next l)) (i+next l) ts):Lexes l i (tokD l i :: ts)
theorem lexG_of {l:Bs} {i:Nat} {ts:List Tok} (h:Lexes l i ts):∀ (f:Nat) (out:List Tok),l.length<f→out.length+ts.length≤4096→lexG f l i out=(out++ts,0,0):=by
 induction h with
 | done i =>
  intro f out hf ho
  obtain⟨f,rfl⟩:∃ k,f=k+1:=⟨f - 1,by omega⟩
  rw[lexG,if_pos List.length_nil,List.append_nil]
 | @tok l i ts hw hv h ih =>
  intro f out hf ho
  obtain⟨f,rfl⟩:∃ k,f=k+1:=⟨f - 1,by omega⟩
  have hp:=(word_pos hw).2
  have hn:=next_pos hw
  simp only[List.length_cons] at ho
  rw[lexG,if_neg (by omega),if_neg (by omega),if_neg hw,if_neg (by rintro⟨h1,h2⟩; exact h2 (hv h1)),ih f _ (by rw[List.length_drop]; omega) (by simp; omega)]
  simp
theorem lexes_of:∀ (f:Nat) (l:Bs) (i:Nat) (out o:List Tok) (p:Nat) (e:Int),l.length<f→lexG f l i out=(o,p,e) →
 (e=0∧p=0∧∃ ts,o=out++ts∧Lexes l i ts∧(out.length≤4096→o.length≤4096))∨(o = []∧e≠0∧i≤p∧p<i+l.length∧(out.length+l.length≤4096→¬ ∃ ts,Lexes l i ts)):=by
 intro f
 induction f with
 | zero=>intro l i out o p e h; omega
 | succ f ih =>
  intro l i out o p e hf h
  rw[lexG] at h
  split at h
  · rename_i h0
    obtain rfl:=List.eq_nil_of_length_eq_zero h0
    injection h with h1 h2
    injection h2 with h2 h3
    subst h1 h2 h3
    exact .inl ⟨rfl,rfl,[],by simp,.done _,fun h=>h⟩
  rename_i h0
  split at h
  · rename_i h1
    injection h with e1 e2
    injection e2 with e2 e3
    subst e1 e2 e3
    exact .inr ⟨rfl,by decide,Nat.le_refl _,by omega,fun h=>by omega⟩
  rename_i h1
  split at h
  · rename_i h2
    injection h with e1 e2
    injection e2 with e2 e3
    subst e1 e2 e3
    refine .inr ⟨rfl,by decide,Nat.le_refl _,by omega,?_⟩
    rintro - ⟨ts,hl⟩
    cases hl with
    | done=>simp at h0
    | tok hw=>exact hw h2
  rename_i h2
  split at h
  · rename_i h3
    injection h with e1 e2
    injection e2 with e2 e3
    subst e1 e2 e3
    refine .inr ⟨rfl,by decide,Nat.le_refl _,by omega,?_⟩
    rintro - ⟨ts,hl⟩
    cases hl with
    | done=>simp at h0
    | tok hw hv=>exact h3.2 (hv h3.1)
  rename_i h3
  have hv:(word l).1=2→fits (intD (l.take (word l).2)):=fun h=>Decidable.by_contra fun g=>h3 ⟨h,g⟩
  have hn:=next_pos h2
  have hn2:=next_le l
  rcases ih _ _ _ _ _ _ (by rw[List.length_drop]; omega) h with ⟨rfl,rfl,ts,rfl,hl,hc⟩ | ⟨rfl,he,hp1,hp2,hc⟩
  · refine .inl ⟨rfl,rfl,tokD l i :: ts,by simp,.tok h2 hv hl,fun h => ?_⟩
    have:=hc (by simp; omega)
    simpa using this
  · rw[List.length_drop] at hp2
    refine .inr ⟨rfl,he,by omega,by omega,?_⟩
    rintro hlen ⟨ts,hl⟩
    cases hl with
    | done=>simp at h0
    | tok hw hv hl =>
     exact hc (by rw[List.length_drop]; simp; omega) ⟨_,hl⟩
end Go.Proofs.YtjmmcnldfkjebaaGreatDoor.Lx
namespace Go.Proofs.YtjmmcnldfkjebaaGreatDoor.Lx
open Dig
set_option linter.unusedVariables false
set_option linter.unusedSimpArgs false
def noAt (t:Tok):Tok:={ t with at_:=0 }
theorem digB_word {c:UInt8} (h:wordB c=false):digB c=false:=by
 unfold wordB at h; exact (Bool.or_eq_false_iff.1 h).2
theorem run_sep {p:UInt8→Bool} {c:UInt8} (h:p c=false) (b:Bs):∀ l:Bs,run p (l++c :: b)=run p l
 | []=>by simp[run,h]
 | a :: t=>by simp only[List.cons_append,run,run_sep h b t]
theorem run_take (p:UInt8→Bool):∀ l:Bs,run p (l.take (run p l))=run p l
 | []=>rfl
 | c :: t=>by
  by_cases h:p c=true
  · have:=run_take p t
    simp only[run,if_pos h,Nat.add_comm 1,List.take_succ_cons,this]
  · simp only[run,if_neg h,List.take_zero]
theorem word_take (l:Bs) (hw:(word l).1≠0):word (l.take (word l).2)=word l:=by
 cases l with
 | nil=>simp[word] at hw
 | cons c t =>
  by_cases h1:letterB c=true
  · have e:word (c :: t)=(1,run wordB t+1):=by simp only[word,if_pos h1,Nat.add_comm]
    rw[e]
    show word ((c :: t).take (run wordB t+1))=_
    rw[List.take_succ_cons]
    simp only[word,if_pos h1,run_take,Nat.add_comm]
  by_cases h2:digB c=true
  · have e:word (c :: t)=(2,run digB t+1):=by simp only[word,if_neg h1,if_pos h2,Nat.add_comm]
    rw[e]
    show word ((c :: t).take (run digB t+1))=_
    rw[List.take_succ_cons]
    simp only[word,if_neg h1,if_pos h2,run_take,Nat.add_comm]
  by_cases h3:c.toNat=45∧0<run digB t
  · have e:word (c :: t)=(2,run digB t+1):=by simp only[word,if_neg h1,if_neg h2,if_pos h3,Nat.add_comm]
    rw[e]
    show word ((c :: t).take (run digB t+1))=_
    rw[List.take_succ_cons]
    simp only[word,if_neg h1,if_neg h2,run_take,if_pos h3,Nat.add_comm]
  by_cases h4:(c.toNat=58∨c.toNat=46)∧t.head?=some c
  · have e:word (c :: t)=(3,2):=by simp only[word,if_neg h1,if_neg h2,if_neg h3,if_pos h4]
    have e2:(t.take 1).head?=some c:=by
     cases t with
     | nil=>simp at h4
     | cons a r=>simpa using h4.2
    have h45:¬ (c.toNat=45∧0<run digB (t.take 1)):=by rintro⟨h4a,-⟩; rcases h4.1 with h5 | h5 <;> omega
    rw[e]
    show word (c :: t.take 1)=_
    simp only[word,if_neg h1,if_neg h2,if_neg h45,if_pos (And.intro h4.1 e2)]
  by_cases h5:signB c=true
  · have e:word (c :: t)=(3,1):=by simp only[word,if_neg h1,if_neg h2,if_neg h3,if_neg h4,if_pos h5]
    rw[e]
    show word [c]=_
    have g3:¬ (c.toNat=45∧0<run digB []):=by simp[run]
    have g4:¬ ((c.toNat=58∨c.toNat=46)∧([]:Bs).head?=some c):=by simp
    simp only[word,if_neg h1,if_neg h2,if_neg g3,if_neg g4,if_pos h5]
  · exfalso; apply hw
    simp only[word,if_neg h1,if_neg h2,if_neg h3,if_neg h4,if_neg h5]
theorem word_blk {l:Bs} (hw:(word l).1≠0):blk false l=0:=by
 cases l with
 | nil=>simp[word] at hw
 | cons c t =>
  have hc:c.toNat≠37∧whiteB c=false:=by
   by_cases h:c.toNat≠37∧whiteB c=false
   · exact h
   exfalso
   apply hw
   have h5:c.toNat=37∨c.toNat=32∨c.toNat=9∨c.toNat=10∨c.toNat=13:=by
    by_cases h6:c.toNat=37
    · exact .inl h6
    · right
      have:¬ whiteB c=false:=fun g=>h ⟨h6,g⟩
      simp only[whiteB,decide_eq_false_iff_not,Decidable.not_not] at this
      exact this
   have a1:¬ letterB c=true:=by simp only[letterB,Bool.or_eq_true,decide_eq_true_eq]; omega
   have a2:¬ digB c=true:=by simp only[digB,decide_eq_true_eq]; omega
   have a3:¬ signB c=true:=by simp only[signB,decide_eq_true_eq]; omega
   simp only[word,if_neg a1,if_neg a2,if_neg a3]
   rw[if_neg (by omega),if_neg (by omega)]
  simp only[blk,if_neg hc.1,hc.2,Bool.false_eq_true,if_false]
theorem take_len {l:Bs} : (l.take (word l).2).length=(word l).2:=by
 rw[List.length_take]; have:=word_le l; omega
end Go.Proofs.YtjmmcnldfkjebaaGreatDoor.Lx
namespace Go.Proofs.YtjmmcnldfkjebaaGreatDoor.Lx
open Dig
set_option linter.unusedVariables false
set_option linter.unusedSimpArgs false
def L (s:ByteArray):Bs:=s.data.toList
theorem L_len (s:ByteArray):(L s).length=s.size:=Array.length_toList
theorem L_drop (s:ByteArray) (i:Nat) (h:i<s.size):(L s).drop i=s[i] :: (L s).drop (i+1):=by
 have hl:i<(L s).length:=by rw[L_len]; exact h
 rw[List.drop_eq_getElem_cons hl]; rfl
theorem L_end (s:ByteArray) (i:Nat) (h:s.size≤i):(L s).drop i = []:=List.drop_eq_nil_of_le (by rw[L_len]; exact h)
def endF (s:ByteArray) (k:Nat):Nat:=k+blk false ((L s).drop k)
def endT (s:ByteArray) (k:Nat):Nat:=k+blk true ((L s).drop k)
def runE (p:UInt8→Bool) (s:ByteArray) (k:Nat):Nat:=k+run p ((L s).drop k)
theorem endF_end {s:ByteArray} {k:Nat} (h:s.size≤k):endF s k=k:=by rw[endF,L_end s k h]; rfl
theorem endT_end {s:ByteArray} {k:Nat} (h:s.size≤k):endT s k=endF s k:=by rw[endF,endT,L_end s k h]; rfl
theorem endF_cmt {s:ByteArray} {k:Nat} (h:k<s.size) (h2:s[k].toNat=37):endF s k=endT s k:=by
 rw[endF,endT,L_drop s k h]; simp only[blk,h2,if_true,Nat.reduceEqDiff,if_false]
theorem endT_step {s:ByteArray} {k:Nat} (h:k<s.size) (h2:s[k].toNat≠10):endT s k=endT s (k+1):=by
 rw[endT,endT,L_drop s k h]; simp only[blk,if_neg h2]; omega
theorem endT_nl {s:ByteArray} {k:Nat} (h:k<s.size) (h2:s[k].toNat=10):endT s k=endF s k:=by
 rw[endF,endT,L_drop s k h]; simp only[blk,if_pos h2,if_neg (show ¬ s[k].toNat=37 by omega),whiteB]; simp[h2]
theorem endF_white {s:ByteArray} {k:Nat} (h:k<s.size) (h2:s[k].toNat=32∨s[k].toNat=9∨s[k].toNat=10∨s[k].toNat=13):endF s k=endF s (k+1):=by
 rw[endF,endF,L_drop s k h]; simp only[blk,if_neg (show ¬ s[k].toNat=37 by omega),whiteB,decide_eq_true h2,if_true]; omega
theorem endF_stop {s:ByteArray} {k:Nat} (h:k<s.size) (h1:s[k].toNat≠37) (h2:¬ (s[k].toNat=32∨s[k].toNat=9∨s[k].toNat=10∨s[k].toNat=13)):endF s k=k:=by
 rw[endF,L_drop s k h]; simp only[blk,if_neg h1,whiteB,decide_eq_false h2,Bool.false_eq_true,if_false]; omega
theorem endF_le {s:ByteArray} {k:Nat} (h:k≤s.size):k≤endF s k∧endF s k≤s.size:=by
 have:=blk_le false ((L s).drop k)
 rw[List.length_drop,L_len] at this
 unfold endF; omega
theorem runE_end {p:UInt8→Bool} {s:ByteArray} {k:Nat} (h:s.size≤k):runE p s k=k:=by rw[runE,L_end s k h]; rfl
theorem runE_step {p:UInt8→Bool} {s:ByteArray} {k:Nat} (h:k<s.size) (h2:p s[k]=true):runE p s k=runE p s (k+1):=by
 rw[runE,runE,L_drop s k h]; simp only[run,if_pos h2]; omega
theorem runE_stop {p:UInt8→Bool} {s:ByteArray} {k:Nat} (h:k<s.size) (h2:p s[k]=false):runE p s k=k:=by
 rw[runE,L_drop s k h]; simp only[run,h2,Bool.false_eq_true,if_false]; omega
theorem runE_le {p:UInt8→Bool} {s:ByteArray} {k:Nat} (h:k≤s.size):k≤runE p s k∧runE p s k≤s.size:=by
 have:=run_le p ((L s).drop k)
 rw[List.length_drop,L_len] at this
 unfold runE; omega
theorem word_letter {s:ByteArray} {k:Nat} (h:k<s.size) (h1:letterB s[k]=true):word ((L s).drop k)=(1,runE wordB s (k+1) - k):=by
 rw[L_drop s k h]; simp only[word,if_pos h1,runE]; congr 1; omega
theorem word_digit {s:ByteArray} {k:Nat} (h:k<s.size) (h1:letterB s[k]=false) (h2:digB s[k]=true):word ((L s).drop k)=(2,runE digB s (k+1) - k):=by
 rw[L_drop s k h]; simp only[word,h1,Bool.false_eq_true,if_false,if_pos h2,runE]; congr 1; omega
theorem word_minus {s:ByteArray} {k:Nat} (h:k<s.size) (h1:s[k].toNat=45) (h2:k+1<runE digB s (k+1)):word ((L s).drop k)=(2,runE digB s (k+1) - k):=by
 have a1:¬ letterB s[k]=true:=by simp only[letterB,Bool.or_eq_true,decide_eq_true_eq]; omega
 have a2:¬ digB s[k]=true:=by simp only[digB,decide_eq_true_eq]; omega
 rw[L_drop s k h]; unfold runE at h2 ⊢
 simp only[word,if_neg a1,if_neg a2]; rw[if_pos ⟨h1,by omega⟩]; congr 1; omega
theorem word_lone {s:ByteArray} {k:Nat} (h:k<s.size) (h1:s[k].toNat=45) (h2:runE digB s (k+1)=k+1):word ((L s).drop k)=(0,0):=by
 have a1:¬ letterB s[k]=true:=by simp only[letterB,Bool.or_eq_true,decide_eq_true_eq]; omega
 have a2:¬ digB s[k]=true:=by simp only[digB,decide_eq_true_eq]; omega
 have a3:¬ signB s[k]=true:=by simp only[signB,decide_eq_true_eq]; omega
 rw[L_drop s k h]; unfold runE at h2
 simp only[word,if_neg a1,if_neg a2,if_neg a3]; rw[if_neg (by omega),if_neg (by omega)]
theorem head_at {s:ByteArray} {k:Nat} {c:UInt8} (h:k<s.size):((L s).drop k).head?=some c↔s[k]=c:=by
 rw[L_drop s k h]; simp
theorem word_two {s:ByteArray} {k:Nat} (h:k+1<s.size) (h1:s[k].toNat=58∨s[k].toNat=46) (h2:s[k+1].toNat=s[k].toNat):word ((L s).drop k)=(3,2):=by
 have a1:¬ letterB s[k]=true:=by simp only[letterB,Bool.or_eq_true,decide_eq_true_eq]; omega
 have a2:¬ digB s[k]=true:=by simp only[digB,decide_eq_true_eq]; omega
 have a3:((L s).drop (k+1)).head?=some s[k]:=(head_at h).2 (UInt8.toNat_inj.1 h2)
 rw[L_drop s k (by omega)]
 simp only[word,if_neg a1,if_neg a2]; rw[if_neg (by omega),if_pos ⟨h1,a3⟩]
theorem word_one {s:ByteArray} {k:Nat} (h:k<s.size) (h1:signB s[k]=true) (h2:s[k].toNat=58→∀ h:k+1<s.size,s[k+1].toNat≠58):word ((L s).drop k)=(3,1):=by
 have h1':=h1
 simp only[signB,decide_eq_true_eq] at h1'
 have a1:¬ letterB s[k]=true:=by simp only[letterB,Bool.or_eq_true,decide_eq_true_eq]; omega
 have a2:¬ digB s[k]=true:=by simp only[digB,decide_eq_true_eq]; omega
 rw[L_drop s k h]
 simp only[word,if_neg a1,if_neg a2]; rw[if_neg (by omega),if_neg,if_pos h1]
 rintro⟨h3,h4⟩
 by_cases h5:k+1<s.size
 · have h6:=(head_at h5).1 h4
   have h7:s[k+1].toNat=s[k].toNat:=by rw[h6]
   exact h2 (by omega) h5 (by omega)
 · rw[L_end s _ (by omega)] at h4; simp at h4
theorem word_none {s:ByteArray} {k:Nat} (h:k<s.size) (a1:letterB s[k]=false) (a2:digB s[k]=false) (a3:signB s[k]=false) (h1:s[k].toNat≠45) (h2:s[k].toNat=46→∀ h:k+1<s.size,s[k+1].toNat≠46):word ((L s).drop k)=(0,0):=by
 have a3':=a3
 simp only[signB,decide_eq_false_iff_not] at a3'
 rw[L_drop s k h]
 simp only[word,a1,a2,a3,Bool.false_eq_true,if_false]
 rw[if_neg (by omega),if_neg]
 rintro⟨h3,h4⟩
 by_cases h5:k+1<s.size
 · have h6:=(head_at h5).1 h4
   have h7:s[k+1].toNat=s[k].toNat:=by rw[h6]
   exact h2 (by omega) h5 (by omega)
 · rw[L_end s _ (by omega)] at h4; simp at h4
theorem L_extract (s:ByteArray) (i j:Nat) (h:i≤j):L (s.extract i j)=((L s).drop i).take (j - i):=by
 unfold L
 rw[ByteArray.data_extract,Array.toList_extract]
theorem L_append (s t:ByteArray):L (s++t)=L s++L t:=by
 unfold L; rw[ByteArray.data_append,Array.toList_append]
theorem L_inj {s t:ByteArray} (h:L s=L t):s=t:=by
 cases s with | mk a=>cases t with | mk b=>congr 1; exact Array.toList_inj.1 h
theorem L_mk (l:Bs):L ⟨l.toArray⟩=l:=rfl
end Go.Proofs.YtjmmcnldfkjebaaGreatDoor.Lx
namespace Go.Proofs.YtjmmcnldfkjebaaGreatDoor.Tk
open Go.RowKit
set_option linter.unusedVariables false
open Dig Lx
structure Tv where
 k:Int
 s:ByteArray
 v:Int
 a:Int
def Tv.nil:Tv:=⟨0,⟨#[]⟩,0,0⟩
def cells4 (t:Tv):List Value:=[.int .i64 t.k,.string t.s,.int .i64 t.v,.int .i64 t.a]
def tcells:List Tv→List Value
 | [] => []
 | t :: r=>cells4 t++tcells r
theorem tcells_len:∀ ts:List Tv,(tcells ts).length=ts.length*4
 | []=>rfl
 | t :: r=>by simp only[tcells,List.length_append,tcells_len r,cells4,List.length_cons,List.length_nil]; omega
theorem tcells_append:∀ xs ys:List Tv,tcells (xs++ys)=tcells xs++tcells ys
 | [],ys=>rfl
 | t :: r,ys=>by simp only[List.cons_append,tcells,tcells_append r ys,List.append_assoc]
theorem tcells_one (t:Tv):tcells [t]=cells4 t:=by simp[tcells]
theorem tcells_get:∀ (ts:List Tv) (i j:Nat),i<ts.length→j<4→(tcells ts)[i*4+j]?=(cells4 (ts.getD i .nil))[j]?
 | [],i,j,h,hj=>by simp at h
 | t :: r,0,j,h,hj=>by
  simp only[tcells,Nat.zero_mul,Nat.zero_add]
  rw[List.getElem?_append_left (by simp[cells4]; omega)]
  simp
 | t :: r,i+1,j,h,hj=>by
  simp only[tcells]
  rw[List.getElem?_append_right (by simp[cells4]; omega)]
  have e:(i+1)*4+j - (cells4 t).length=i*4+j:=by simp[cells4]; omega
  rw[e,tcells_get r i j (by simpa using h) hj]
  simp[List.getD]
def Tok4 (w:World) (b o:Nat) (t:Tv):Prop:=
 w.cell? ⟨b,o,none⟩=some (.int .i64 t.k)∧w.cell? ⟨b,o+1,none⟩=some (.string t.s)∧w.cell? ⟨b,o+2,none⟩=some (.int .i64 t.v)∧w.cell? ⟨b,o+3,none⟩=some (.int .i64 t.a)
theorem Tok4.since {w w':World} {b o:Nat} {t:Tv} (h:Tok4 w b o t) (k:Since w w'):Tok4 w' b o t:=by
 obtain⟨h1,h2,h3,h4⟩:=h
 have hb:=World.block_lt_of_cell? _ _ h1
 exact⟨(k.cell _ hb).trans h1,(k.cell ⟨b,o+1,none⟩ hb).trans h2,(k.cell ⟨b,o+2,none⟩ hb).trans h3,(k.cell ⟨b,o+3,none⟩ hb).trans h4⟩
def Toks (w:World) (v:Value) (ts:List Tv):Prop:=
 ∃ A c,v = .slice A ts.length c∧ts.length≤c∧(0<ts.length→∃ b o,A=some ⟨b,o,none⟩∧∀ i,i<ts.length→Tok4 w b (o+i*4) (ts.getD i .nil))
theorem Toks.since {w w':World} {v:Value} {ts:List Tv} (h:Toks w v ts) (k:Since w w'):Toks w' v ts:=by
 obtain⟨A,c,h1,h2,h3⟩:=h
 refine⟨A,c,h1,h2,fun hl => ?_⟩
 obtain⟨b,o,h4,h5⟩:=h3 hl
 exact⟨b,o,h4,fun i hi=>(h5 i hi).since k⟩
theorem Toks.nil (w:World):Toks w (.slice none 0 0) []:=⟨none,0,rfl,Nat.le_refl _,fun h=>absurd h (Nat.lt_irrefl 0)⟩
theorem Toks.own {w:World} {base:Nat} {e:TypeId} {v:Value} {n:Nat} {ts:List Tv} (h:w.ownsRow base e 4 v n (tcells ts)):Toks w v ts:=by
 have hl:ts.length=n:=by have:=h.1; rw[tcells_len] at this; omega
 subst hl
 have hc:=fun (g:Nat)=>h.cells (g:=g)
 rcases h.2 with ⟨h1,h2⟩ | ⟨g,cap,cur,h1,_,_,hcap,_⟩
 · exact⟨none,0,by rw[h1,h2],by omega,fun h=>by omega⟩
 · refine⟨some ⟨g,0,none⟩,cap,h1,hcap,fun _=>⟨g,0,rfl,fun i hi => ?_⟩⟩
   have q:=fun (j:Nat) (u:Value) (hj:j<4) (hu:(cells4 (ts.getD i .nil))[j]?=some u) =>
    hc g (by rw[h1]; rfl) (i*4+j) u (by rw[tcells_get ts i j hi hj]; exact hu)
   simp only[add_block,Nat.zero_add] at q
   refine⟨?_,?_,?_,?_⟩
   · simpa using q 0 _ (by omega) rfl
   · simpa using q 1 _ (by omega) rfl
   · simpa using q 2 _ (by omega) rfl
   · simpa using q 3 _ (by omega) rfl
theorem Toks.at_ {w:World} {A:Option Addr} {n c:Nat} {ts:List Tv} (h:Toks w (.slice A n c) ts):n=ts.length∧ts.length≤c:=by
 obtain⟨A',c',h1,h2,-⟩:=h
 injection h1 with _ e1 e2
 subst e1 e2
 exact⟨rfl,h2⟩
theorem Toks.el {w:World} {A:Option Addr} {n c:Nat} {ts:List Tv} (h:Toks w (.slice A n c) ts) {i:Nat} (hi:i<ts.length):∃ b o,A=some ⟨b,o,none⟩∧Tok4 w b (o+i*4) (ts.getD i .nil):=by
 obtain⟨A',c',h1,h2,h3⟩:=h
 obtain⟨b,o,h4,h5⟩:=h3 (by omega)
 injection h1 with e0 e1 e2
 subst e0
 exact⟨b,o,h4,h5 i hi⟩
theorem add_at (b o k:Nat):(⟨b,o,none⟩:Addr).add k=⟨b,o+k,none⟩:=by
 unfold Addr.add; by_cases h:k=0 <;> simp[h]
def tv (t:Tok):Tv:=⟨(t.kind:Int),⟨t.txt.toArray⟩,t.val,(t.at_:Int)⟩
theorem owns_since {w w':World} {base:Nat} {e:TypeId} {size:Nat} {v:Value} {n:Nat} {xs:List Value} (h:w.ownsRow base e size v n xs) (k:Since w w'):w'.ownsRow base e size v n xs:=by
 refine⟨h.1,?_⟩
 rcases h.2 with h1 | ⟨g,cap,cur,h1,h2,h3,h4⟩
 · exact .inl h1
 · refine .inr ⟨g,cap,cur,h1,h2,?_,h4⟩
   have hg:g<w.heap.size:=by
    apply Decidable.byContradiction; intro hn
    rw[Array.getElem?_eq_none (by omega)] at h3; cases h3
   rw[k.block g hg]; exact h3
theorem owns_slice {w:World} {base:Nat} {e:TypeId} {size:Nat} {v:Value} {n:Nat} {xs:List Value} (h:w.ownsRow base e size v n xs):∃ A c,v = .slice A n c:=by
 rcases h.2 with ⟨h1,h2⟩ | ⟨g,cap,cur,h1,_⟩
 · exact⟨none,0,by rw[h1,h2]⟩
 · exact⟨_,_,h1⟩
def RetT (r:List Tok × Nat × Int) (w:World) (e:Ending) (w':World):Prop:=
 ∃ A c,e = .returned (.tuple #[.slice A r.1.length c,.int .i64 (r.2.1:Int),.int .i64 r.2.2])∧Toks w' (.slice A r.1.length c) (r.1.map tv)∧Since w w'
theorem RetT.no {p:Nat} {x:Int} {r:List Tok × Nat × Int} {w w':World} (h:r=([],p,x)) (k:Since w w'):RetT r w (.returned (.tuple #[.slice none 0 0,.int .i64 (p:Int),.int .i64 x])) w':=by
 subst h; exact⟨none,0,rfl,Toks.nil _,k⟩
theorem RetT.yes {acc:List Tok} {m c:Nat} {A:Option Addr} {r:List Tok × Nat × Int} {w w':World} (h:r=(acc,0,0)) (hm:acc.length=m) (hq:Toks w' (.slice A m c) (acc.map tv)) (k:Since w w') :
 RetT r w (.returned (.tuple #[.slice A m c,.int .i64 0,.int .i64 0])) w':=by
 subst h hm; exact⟨A,c,rfl,hq,k⟩
theorem tok_txt (s:ByteArray) (k n:Nat):(⟨(((L s).drop k).take n).toArray⟩:ByteArray)=s.extract k (k+n):=by
 apply L_inj
 rw[L_extract _ _ _ (by omega),show k+n - k=n by omega]
 rfl
theorem next_end (s:ByteArray) (k:Nat):k+next ((L s).drop k)=endF s (k+(word ((L s).drop k)).2):=by
 unfold next endF
 rw[List.drop_drop]; omega
end Go.Proofs.YtjmmcnldfkjebaaGreatDoor.Tk
