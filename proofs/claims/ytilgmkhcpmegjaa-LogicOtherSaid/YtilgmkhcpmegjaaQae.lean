/- An append to a row of the call's own, as one operation: with where the new slice lies. No code is spoken of. A -/
import Derived.BigFrame
import Derived.Maps.AppendAt
import Derived.Test.YtilgmkhcpmegjaaTi
import Derived.Deep.RegionHeld3
set_option linter.unusedVariables false
set_option linter.unusedSimpArgs false
section
namespace Go.Proofs.Ytilgmkhcpmegjaa.Ti
open Go.RowKit Go.Proofs.Ytilgmkhcpmegjaa.Dig
theorem wp_append_at {P : Program} (w : World) {o : Oper} {a : Act} {K : Act → World → Prop} {Q : Exit → Act → World → Prop} (s x : Operand) (t : TypeId)
    (ho : o.op = .call { callee := .builtin .append, args := #[s, x], argTypes := #[t, t] })
    (base : Nat) (e : TypeId) (i : TypeInfo) (z : Value) (size bytes : Nat) (ht : P.underlying t = some (.slice e)) (hi : P.info? e = some i) (hz : i.zero = some z)
    (hsize : i.size = size) (hby : i.bytes = bytes) (hzs : z.cells.size = size) (hsz : 0 < size)
    (v : Value) (n : Nat) (xs : List Value) (hs : a.eval s = v) (hown : w.ownsRow base e size v n xs)
    (ad : Addr) (m c : Nat) (news : List Value) (hx : a.eval x = .slice (some ad) m c) (hl : news.length = m * size) (hnews : ∀ j u, news[j]? = some u → w.cell? (ad.add j) = some u) (h1 : ∀ u ∈ news, u.oneCell' = true)
    (h63 : n + m ≤ maxLen) (hbytes : (n + m) * bytes ≤ 140737488355328) (hbase : base ≤ w.heap.size)
    (h : ∀ v' w', w'.ownsRow base e size v' (n + m) (xs ++ news) → w.grownBy w' v.ownBlock → (v'.ownBlock = v.ownBlock ∨ v'.ownBlock = some w.heap.size) → K (a.put o.dst v') w') : o.wp P a w K Q := by
  obtain ⟨v', w', hr, h2, h3, h4, h5⟩ := run_append_own_at (P := P) w base t o.type e i z size bytes ht hi hz hsize hby hzs hsz v n xs hown ad m c news hl hnews h1 h63 hbytes hbase
  unfold Oper.wp execOp
  simp only [ho, resolve, invoke, builtin, Sem.run_bind, Sem.run_pure, Result.andThen_ok, List.map_toArray, List.map_cons, List.map_nil, hs, hx, hr]
  exact h v' w' h2 h3 h5
theorem Rws.one {α : Type} {size : Nat} {Q : α → List Value → Prop} (hQ : ∀ x u, Q x u → ∀ y ∈ u, y.oneCell' = true) {xs : List α} {cs : List Value} (h : Rws size Q xs cs) : ∀ y ∈ cs, y.oneCell' = true := by
  induction h with
  | nil => intro y hy; simp at hy
  | snoc h k l ih =>
    intro y hy
    rcases List.mem_append.1 hy with hy | hy
    · exact ih y hy
    · exact hQ _ _ k y hy
theorem QI.one {G : Nat → Prop} {w : World} {x : Ps.It} {u : List Value} (h : QI G w x u) : ∀ y ∈ u, y.oneCell' = true := by
  obtain ⟨d, v, rfl, h2, -, h4, -⟩ := h
  obtain ⟨A1, c1, rfl⟩ := h2.form
  obtain ⟨A2, c2, rfl⟩ := h4.form
  intro y hy
  simp only [List.mem_cons, List.not_mem_nil, or_false] at hy
  rcases hy with rfl | rfl | rfl | rfl | rfl | rfl | rfl | rfl <;> rfl
section
open Go.RowKit Go.Proofs.Ytilgmkhcpmegjaa.Dig
/-- a slice that reads as a list: its cells, one behind the other -/
theorem Sl.rows {α : Type} {size : Nat} {Q : World → α → List Value → Prop} {w : World} {A : Option Addr} {n c : Nat} {xs : List α} (h : Sl size Q w (.slice A n c) xs) :
    ∃ cs, Rws size (Q w) xs cs ∧ n = xs.length ∧ (n = 0 ∨ ∃ b o, A = some ⟨b, o, none⟩ ∧ ∀ j u, cs[j]? = some u → w.cell? ⟨b, o + j, none⟩ = some u) := by
  have hn := h.at_.1
  obtain ⟨A', c', e, -, h3⟩ := h
  injection e with e1 e2 e3
  subst e1
  by_cases h0 : xs.length = 0
  · obtain rfl := List.eq_nil_of_length_eq_zero h0
    exact ⟨[], .nil, hn, .inl (hn.trans h0)⟩
  obtain ⟨b, o, hA, hc⟩ := h3 (by omega)
  have key : ∀ k, k ≤ xs.length → ∃ cs, Rws size (Q w) (xs.take k) cs ∧ ∀ j u, cs[j]? = some u → w.cell? ⟨b, o + j, none⟩ = some u := by
    intro k
    induction k with
    | zero => intro _; exact ⟨[], .nil, fun j u hj => by simp at hj⟩
    | succ k ih =>
      intro hk
      obtain ⟨cs, h4, h5⟩ := ih (by omega)
      obtain ⟨u, h6, h7, h8⟩ := hc k xs[k] (List.getElem?_eq_getElem (by omega))
      have hl := h4.len
      rw [List.length_take, Nat.min_eq_left (by omega)] at hl
      refine ⟨cs ++ u, by rw [takeR (by omega)]; exact h4.snoc h6 h7, fun j y hj => ?_⟩
      by_cases hlt : j < cs.length
      · rw [List.getElem?_append_left hlt] at hj
        exact h5 j y hj
      · rw [List.getElem?_append_right (by omega)] at hj
        have := h8 _ y hj
        rw [show o + k * size + (j - cs.length) = o + j by omega] at this
        exact this
  obtain ⟨cs, h4, h5⟩ := key xs.length (Nat.le_refl _)
  rw [List.take_length] at h4
  exact ⟨cs, h4, hn, .inr ⟨b, o, hA, h5⟩⟩
end
end Go.Proofs.Ytilgmkhcpmegjaa.Ti
end
section
namespace Go.Proofs.Ytilgmkhcpmegjaa.Reg
open Go
section
variable {P:Program} {ops:Array Oper} {Q:Exit→Act→World→Prop} {md:Region.Mode} {S:World→Prop}
def Tame (P:Program) (ops:Array Oper) (S:World→Prop) (o:Oper) (v:Value) (a:Act) (w:World):Prop:=
 (Region.wanted o (yielded ops a.tmps)=true ∧
  ((∀ w',Since w w'→S w'→(execOp a.eval o).run P w' = .ok (.value v) w') ∨
   ∃ f args,∀ w',Since w w'→S w'→(execOp a.eval o).run P w' = .ok (.enter f args) w'∧Calls P f args w' fun e w''=>e = .returned v∧Since w' w''∧S w'')) ∨
 (Region.wanted o (yielded ops a.tmps)=false∧v=undef)
theorem Tame.later {o:Oper} {v:Value} {a:Act} {w w1:World} (h:Tame P ops S o v a w) (k:Since w w1):Tame P ops S o v a w1:=by
 rcases h with ⟨h0,h | ⟨f,args,h⟩⟩ | h
 · exact .inl ⟨h0,.inl fun w' k' s=>h w' (k.trans k') s⟩
 · exact .inl ⟨h0,.inr ⟨f,args,fun w' k' s=>h w' (k.trans k') s⟩⟩
 · exact .inr h
theorem Tame.other {o:Oper} {v:Value} {a a':Act} {w:World} (h:Tame P ops S o v a w) (he:execOp a'.eval o=execOp a.eval o)
 (hw:Region.wanted o (yielded ops a'.tmps)=Region.wanted o (yielded ops a.tmps)):Tame P ops S o v a' w:=by
 unfold Tame at *
 rw[he,hw]; exact h
theorem Tame.runs {i:Nat} {o:Oper} {v:Value} {a:Act} {w:World} {K:Act→World→Prop} (hi:ops[i]?=some o) (h:Tame P ops S o v a w) (hS:S w)
 (k:∀ w',Since w w'→S w'→K (a.put o.dst v) w'):wpOp P ops Q i K a w:=by
 unfold Go.wpOp
 rw[hi]
 simp only
 rcases h with ⟨h0,h | ⟨f,args,h⟩⟩ | ⟨h0,rfl⟩
 · rw[if_pos h0]
   refine .inl ?_
   unfold Oper.wp
   rw[h w (Since.refl w) hS]
   exact k w (Since.refl w) hS
 · rw[if_pos h0]
   refine .inl ?_
   obtain⟨h1,h2⟩:=h w (Since.refl w) hS
   unfold Oper.wp
   rw[h1]
   refine Calls.mono h2 ?_
   rintro e w'' ⟨rfl,h3,h4⟩
   exact k w'' h3 h4
 · rw[if_neg (by rw[h0]; exact Bool.false_ne_true)]
   exact k w (Since.refl w) hS
theorem wpOp_apart {j:Nat} {oi oj:Oper} {v:Value} (hj:ops[j]?=some oj) (hap:oi.apart ops oj=true)
 (hsi:∀ cs b,oi.op ≠ .select cs b) (hsj:∀ cs b,oj.op ≠ .select cs b)
 (hQ:∀ c a w,Q (.panic c) (a.put oi.dst v) w→Q (.panic c) a w) {K:Act→World→Prop} {a:Act} {w:World}
 (h:wpOp P ops Q j K (a.put oi.dst v) w) :
 wpOp P ops Q j (fun a' w'=>(execOp a'.eval oi=execOp a.eval oi∧Region.wanted oi (yielded ops a'.tmps)=Region.wanted oi (yielded ops a.tmps))∧K (a'.put oi.dst v) w') a w:=by
 obtain⟨h1,h2,h3⟩:=Oper.apart_spec hap
 have same:∀ (b:Act) (u:Value),execOp (b.put oj.dst u).eval oi=execOp b.eval oi∧Region.wanted oi (yielded ops (b.put oj.dst u).tmps)=Region.wanted oi (yielded ops b.tmps):=fun b u =>
  ⟨execOp_put oi hsi b oj.dst u h3,wanted_put oi b oj.dst u h3⟩
 have swap:∀ (b:Act) (u:Value),(b.put oi.dst v).put oj.dst u=(b.put oj.dst u).put oi.dst v:=fun b u=>Act.put_comm b v u h2
 unfold wpOp at h ⊢
 rw[hj] at h ⊢
 simp only at h ⊢
 rw[wanted_put oj a oi.dst v h1] at h
 by_cases hw:Region.wanted oj (yielded ops a.tmps)=true
 · rw[if_pos hw] at h ⊢
   rcases h with h | ⟨hk,hl⟩
   · refine .inl ?_
     unfold Oper.wp at h ⊢
     rw[execOp_put oj hsj a oi.dst v h1] at h
     cases hr:(execOp a.eval oj).run P w with
     | ok n w' =>
      rw[hr] at h
      cases n with
      | value u=>exact⟨same a u,by rw[← swap]; exact h⟩
      | skip=>exact⟨same a undef,by rw[← swap]; exact h⟩
      | defer d =>
       refine⟨same _ undef,?_⟩
       rw[← swap,← Act.put_defers]; exact h
      | enter f args =>
       refine Calls.mono h fun e w'' he => ?_
       cases e with
       | returned u=>exact⟨same a u,by rw[← swap]; exact he⟩
       | panicked c=>exact hQ _ _ _ he
       | outgrown=>exact he
      | row row args=>exact Rows.mono h fun u w'' he=>⟨same a u,by rw[← swap]; exact he⟩
      | _=>exact h
     | halt x w' =>
      rw[hr] at h
      cases x with
      | panic u=>exact hQ _ _ _ h
      | _=>exact h
   · exact .inr ⟨by unfold Oper.asks at hk ⊢; rw[execOp_put oj hsj a oi.dst v h1] at hk; exact hk,hl⟩
 · rw[if_neg hw] at h ⊢
   exact⟨same a undef,by rw[← swap]; exact h⟩
def wpG (P:Program) (md:Region.Mode) (ops:Array Oper) (Q:Exit→Act→World→Prop) (S:World→Prop) (late:Nat→Bool):Nat→Array Bool→Act→World→Prop
 | 0,listed,a,w=>∀ w',Since w w'→S w'→Region.ready md ops listed = []∧Q .normal a w'
 | fuel+1,listed,a,w=>∀ w',Since w w'→S w'→(Region.ready md ops listed = []→Q .normal a w') ∧
  ∀ i ∈ Region.ready md ops listed,wpOp P ops Q i (fun a2 w2=>S w2∧(if late i=true then wpAnyH P md ops Q S fuel (listed.setIfInBounds i true) a2 w2
   else Since w' w2∧wpG P md ops Q S late fuel (listed.setIfInBounds i true) a2 w2)) a w'
variable {late:Nat→Bool}
theorem wpG.up {fuel:Nat} {listed:Array Bool} {a:Act} {w w1:World} (h:wpG P md ops Q S late fuel listed a w) (k:Since w w1):wpG P md ops Q S late fuel listed a w1:=by
 cases fuel with
 | zero=>exact fun w' k' s=>h w' (k.trans k') s
 | succ f=>exact fun w' k' s=>h w' (k.trans k') s
theorem wpG.any:∀ (fuel:Nat) (listed:Array Bool) (a:Act) (w:World),S w→wpG P md ops Q S late fuel listed a w→wpAnyH P md ops Q S fuel listed a w
 | 0,_,_,w,s,h=>h w (Since.refl w) s
 | fuel+1,listed,a,w,s,h=>by
  obtain⟨h1,h2⟩:=h w (Since.refl w) s
  refine⟨h1,fun i hi=>wpOp_mono ?_ (h2 i hi)⟩
  rintro a2 w2 ⟨s2,h3⟩
  refine⟨s2,?_⟩
  by_cases hl:late i=true
  · rw[if_pos hl] at h3; exact h3
  · rw[if_neg hl] at h3; exact wpG.any fuel _ a2 w2 s2 h3.2
theorem wpG_first {i:Nat} {oi:Oper} {v:Value} (hi:ops[i]?=some oi) (hsel:∀ (j:Nat) (o:Oper) cs b,ops[j]?=some o→o.op ≠ .select cs b)
 (hQ:∀ c a w,Q (.panic c) (a.put oi.dst v) w→Q (.panic c) a w) (B:Nat→Bool)
 (hB:∀ j oj,ops[j]?=some oj→B j=true→∃ e ∈ oj.after,Region.binds md e=true∧(e.on=i∨B e.on=true))
 (hlB:∀ j,late j=true→B j=true) (hli:late i=false) :
 ∀ (fuel:Nat) (listed:Array Bool) (a:Act) (w:World),
  (∀ j oj,ops[j]?=some oj→j≠i→listed.getD j true=false→(∀ e ∈ oj.after,Region.binds md e=true→e.on≠i)→oi.apart ops oj=true) →
  (∀ j,B j=true→listed.getD j false=false) →
  i ∈ Region.ready md ops listed→Tame P ops S oi v a w →
  wpG P md ops Q S late fuel (listed.setIfInBounds i true) (a.put oi.dst v) w→wpG P md ops Q S late (fuel+1) listed a w:=by
 intro fuel
 induction fuel with
 | zero =>
  intro listed a w _ _ hr ht H w' k s
  refine⟨fun h=>(by rw[h] at hr; cases hr),fun j hj => ?_⟩
  by_cases hji:j=i
  · subst hji
    refine (ht.later k).runs hi s fun w2 k2 s2 => ?_
    rw[if_neg (by rw[hli]; exact Bool.false_ne_true)]
    exact⟨s2,k2,H.up (k.trans k2)⟩
  · have h1:=ready_mono hj hji
    rw[(H w' k s).1] at h1
    cases h1
 | succ f ih =>
  intro listed a w hfree hun hr ht H w' k s
  refine⟨fun h=>(by rw[h] at hr; cases hr),fun j hj => ?_⟩
  by_cases hji:j=i
  · subst hji
    refine (ht.later k).runs hi s fun w2 k2 s2 => ?_
    rw[if_neg (by rw[hli]; exact Bool.false_ne_true)]
    exact⟨s2,k2,H.up (k.trans k2)⟩
  · obtain⟨hjun,oj,hoj,hall⟩:=mem_ready.1 hj
    have hi0:listed.getD i false=false:=by
     have h0:=(mem_ready.1 hr).1
     rcases Nat.lt_or_ge i listed.size with h' | h'
     · simp[h'] at h0 ⊢; exact h0
     · simp[Array.getElem?_eq_none h']
    have hBj:B j=false:=by
     cases hb:B j with
     | false=>rfl
     | true =>
      obtain⟨e,he,hbe,ho⟩:=hB j oj hoj hb
      have h1:=hall e he hbe
      rcases ho with ho | ho
      · rw[ho,hi0] at h1; cases h1
      · rw[hun _ ho] at h1; cases h1
    have hlj:¬ late j=true:=fun h=>by rw[hlB j h] at hBj; cases hBj
    have hnot:∀ e ∈ oj.after,Region.binds md e=true→e.on≠i:=fun e he hb heq=>by
     have h1:=hall e he hb
     rw[heq,hi0] at h1; cases h1
    have h1:=(H w' k s).2 j (ready_mono hj hji)
    have h2:=wpOp_apart hoj (hfree j oj hoj hji hjun hnot) (fun cs b=>hsel i oi cs b hi) (fun cs b=>hsel j oj cs b hoj) hQ h1
    refine wpOp_mono ?_ h2
    rintro a2 w2 ⟨⟨he,hw⟩,s2,h3⟩
    rw[if_neg hlj] at h3 ⊢
    obtain⟨k2,h4⟩:=h3
    refine⟨s2,k2,ih (listed.setIfInBounds j true) a2 w2 ?_ ?_ (ready_mono hr (Ne.symm hji)) (((ht.later k).later k2).other he hw) ?_⟩
    · intro m om hm hmi hun2 hno
      refine hfree m om hm hmi ?_ hno
      by_cases hjm:j=m
      · subst hjm; exact hjun
      · rwa [getD_set_ne true hjm] at hun2
    · intro m hm
      have hjm:j≠m:=fun h=>by subst h; rw[hBj] at hm; cases hm
      rw[getD_set_ne false hjm]; exact hun m hm
    · rw[Array.setIfInBounds_comm _ _ hji]
      exact h4
def waits (md:Region.Mode) (ops:Array Oper) (i:Nat) (B:List Nat):Bool:=
 B.all fun j=>match ops[j]? with
  | some oj=>oj.after.any fun e=>Region.binds md e && (e.on == i || B.contains e.on)
  | none=>true
theorem wpG_take {i:Nat} {oi:Oper} {v:Value} {fuel:Nat} {listed:Array Bool} {a:Act} {w:World} (B L:List Nat) (hlate:late=fun j=>L.contains j) (hi:ops[i]?=some oi) (hs:Region.noSelect ops=true)
 (hf:Region.free md ops listed i=true) (hr:(Region.ready md ops listed).contains i=true) (hw:waits md ops i B=true) (hL:(L.all fun j=>B.contains j)=true) (hli:L.contains i=false)
 (hun:(B.all fun j => !listed.getD j false)=true) (hQ:∀ c a w,Q (.panic c) (a.put oi.dst v) w→Q (.panic c) a w) (ht:Tame P ops S oi v a w)
 (h:wpG P md ops Q S late fuel (listed.setIfInBounds i true) (a.put oi.dst v) w):wpG P md ops Q S late (fuel+1) listed a w:=by
 refine wpG_first hi (Region.noSelect_spec hs) hQ (fun j=>B.contains j) ?_ ?_ ?_ fuel listed a w (Region.free_spec hi hf) ?_ (by simpa using hr) ht h
 · intro j oj hoj hb
   have h1:=List.all_eq_true.1 hw j (by simpa using hb)
   rw[hoj] at h1
   simp only[Array.any_eq_true',Bool.and_eq_true,Bool.or_eq_true,beq_iff_eq] at h1
   obtain⟨e,he,h2,h3⟩:=h1
   exact⟨e,he,h2,h3⟩
 · intro j hj
   subst hlate
   exact List.all_eq_true.1 hL j (by simpa using hj)
 · subst hlate; exact hli
 · intro j hj
   have h1:=List.all_eq_true.1 hun j (by simpa using hj)
   simpa using h1
theorem tk3 {i:Nat} {oi:Oper} {v:Value} {fuel:Nat} {listed:Array Bool} {a:Act} {w:World} (d:Option Tmp) (B L:List Nat) (hi:ops[i]?=some oi) (ht:Tame P ops S oi v a w)
    (h:wpG P md ops Q S late fuel (listed.setIfInBounds i true) (a.put d v) w) (hd:oi.dst=d:=by rfl)
    (hlate:late=fun j=>L.contains j:=by rfl) (hs:Region.noSelect ops=true:=by kernel_rfl)
    (hf:Region.free md ops listed i=true:=by kernel_rfl) (hr:(Region.ready md ops listed).contains i=true:=by kernel_rfl) (hw:waits md ops i B=true:=by kernel_rfl) (hL:(L.all fun j=>B.contains j)=true:=by kernel_rfl) (hli:L.contains i=false:=by kernel_rfl)
    (hun:(B.all fun j=>!listed.getD j false)=true:=by kernel_rfl) (hQ:∀ c a w, Q (.panic c) (a.put oi.dst v) w → Q (.panic c) a w:=by exact fun _ _ _ h=>h) : wpG P md ops Q S late (fuel+1) listed a w :=
  wpG_take B L hlate hi hs hf hr hw hL hli hun hQ ht (hd ▸ h)
theorem ah3 {i:Nat} {oi:Oper} {v:Value} {fuel:Nat} {listed:Array Bool} {a:Act} {w:World} (d:Option Tmp) (hi:ops[i]?=some oi)
    (hs:Region.noSelect ops=true) (hf:Region.free md ops listed i=true) (hr:(Region.ready md ops listed).contains i=true)
    (hQ:∀ c a w, Q (.panic c) (a.put oi.dst v) w → Q (.panic c) a w) (hy:YieldsIf P ops S oi v a) (hS:S w)
    (h:wpAnyH P md ops Q S fuel (listed.setIfInBounds i true) (a.put d v) w) (hd:oi.dst=d:=by rfl) : wpAnyH P md ops Q S (fuel+1) listed a w :=
  wpAnyH_take hi hs hf hr hQ hy hS (hd ▸ h)
theorem tk {i:Nat} {oi:Oper} {v:Value} {fuel:Nat} {listed:Array Bool} {a:Act} {w:World} (B L:List Nat) (ht:Tame P ops S oi v a w)
 (h:wpG P md ops Q S late fuel (listed.setIfInBounds i true) (a.put oi.dst v) w) (hlate:late=fun j=>L.contains j:=by rfl) (hi:ops[i]?=some oi:=by rfl) (hs:Region.noSelect ops=true:=by kernel_rfl)
 (hf:Region.free md ops listed i=true:=by kernel_rfl) (hr:(Region.ready md ops listed).contains i=true:=by kernel_rfl) (hw:waits md ops i B=true:=by kernel_rfl) (hL:(L.all fun j=>B.contains j)=true:=by kernel_rfl) (hli:L.contains i=false:=by kernel_rfl)
 (hun:(B.all fun j => !listed.getD j false)=true:=by kernel_rfl) (hQ:∀ c a w,Q (.panic c) (a.put oi.dst v) w→Q (.panic c) a w:=by exact fun _ _ _ h=>h):wpG P md ops Q S late (fuel+1) listed a w:=
 wpG_take B L hlate hi hs hf hr hw hL hli hun hQ ht h
theorem l1 {α:Type} (l:List α) (i:Nat) (a:α):l.toArray.setIfInBounds i a=(l.set i a).toArray:=List.setIfInBounds_toArray ..
theorem l2 {α:Type} (a:α) (l:List α) (b:α):(a::l).set 0 b=b::l:=List.set_cons_zero ..
theorem l3 {α:Type} (a:α) (l:List α) (n:Nat) (b:α):(a::l).set (n+1) b=a::l.set n b:=List.set_cons_succ ..
def AllG (P:Program) (md:Region.Mode) (ops:Array Oper) (Q:Exit→Act→World→Prop) (S:World→Prop) (late:Nat→Bool) (fuel:Nat) (listed:Array Bool) (a:Act) (w':World) (rs:List Nat):Prop:=
 ∀ i ∈ rs,wpOp P ops Q i (fun a2 w2=>S w2∧(if late i=true then wpAnyH P md ops Q S fuel (listed.setIfInBounds i true) a2 w2
  else Since w' w2∧wpG P md ops Q S late fuel (listed.setIfInBounds i true) a2 w2)) a w'
theorem AllG.nil {fuel:Nat} {listed:Array Bool} {a:Act} {w:World} : AllG P md ops Q S late fuel listed a w []:=fun _ h=>by cases h
theorem AllG.first {fuel:Nat} {listed:Array Bool} {a:Act} {w:World} {i:Nat} {o:Oper} {rs:List Nat} (ho:ops[i]?=some o) (hl:late i=false)
 (h:∀ K':Act→World→Prop,Shut (∀ a2 w2,S w2→Since w w2→wpG P md ops Q S late fuel (listed.setIfInBounds i true) a2 w2→K' a2 w2)→if Region.wanted o (yielded ops a.tmps)=true then Oper.wp P o a w K' Q else K' (a.put o.dst undef) w)
 (hs:AllG P md ops Q S late fuel listed a w rs):AllG P md ops Q S late fuel listed a w (i :: rs):=fun j hj=>by
 rcases List.mem_cons.1 hj with rfl | hj
 · refine wpOp_step ho fun K' hK=>h K' fun a2 w2 s2 k2 g=>hK a2 w2 ⟨s2,?_⟩
   rw[if_neg (by rw[hl]; exact Bool.false_ne_true)]
   exact⟨k2,g⟩
 · exact hs j hj
theorem AllG.last {fuel:Nat} {listed:Array Bool} {a:Act} {w:World} {i:Nat} {o:Oper} {rs:List Nat} (ho:ops[i]?=some o) (hl:late i=true)
 (h:∀ K':Act→World→Prop,Shut (∀ a2 w2,S w2→(S w2→wpAnyH P md ops Q S fuel (listed.setIfInBounds i true) a2 w2)→K' a2 w2)→if Region.wanted o (yielded ops a.tmps)=true then Oper.wp P o a w K' Q else K' (a.put o.dst undef) w)
 (hs:AllG P md ops Q S late fuel listed a w rs):AllG P md ops Q S late fuel listed a w (i :: rs):=fun j hj=>by
 rcases List.mem_cons.1 hj with rfl | hj
 · refine wpOp_step ho fun K' hK=>h K' fun a2 w2 s2 g=>hK a2 w2 ⟨s2,?_⟩
   rw[if_pos hl]
   exact g s2
 · exact hs j hj
theorem wpG_ready {rs:List Nat} {fuel:Nat} {listed:Array Bool} {a:Act} {w:World} (hr:Region.ready md ops listed=rs) (hne:rs ≠ [])
 (h:∀ w',Since w w'→S w'→AllG P md ops Q S late fuel listed a w' rs):wpG P md ops Q S late (fuel+1) listed a w:=fun w' k s =>
 ⟨fun h0=>absurd (hr ▸ h0) hne,hr ▸ h w' k s⟩
theorem wpG_done {listed:Array Bool} {a:Act} {w:World} (hr:Region.ready md ops listed = []) (h:∀ w',Since w w'→S w'→Q .normal a w'):∀ fuel,wpG P md ops Q S late fuel listed a w
 | 0=>fun w' k s=>⟨hr,h w' k s⟩
 | _+1=>fun w' k s=>⟨fun _=>h w' k s,by rw[hr]; simp⟩
theorem wp_region_G {id:Nat} {a:Act} {w:World} (late:Nat→Bool) (hm:P.follows .mixedOrders=true) (hS:S w.drew)
 (h:wpG P .any ops Q S late ops.size (Array.replicate ops.size false) a w.drew):(Code.region id ops true).wp P Q a w:=
 wp_region_held_drew hm hS fun s=>wpG.any _ _ _ _ s h
end
end Go.Proofs.Ytilgmkhcpmegjaa.Reg
end
