/- Layer 10 (trail): a write into memory that is not the store's; words for TrailNobody. -/
import Derived.Test.YtnojfeffmbdpmaaVt
namespace Go.Proofs.Ytnojfeffmbdpmaa.Tr
open Go.RowKit
set_option linter.unusedVariables false
set_option linter.unusedSimpArgs false
open Go.Proofs.Ytnojfeffmbdpmaa.Dig Go.Proofs.Ytnojfeffmbdpmaa.Lx Go.Proofs.Ytnojfeffmbdpmaa.Tk Go.Proofs.Ytnojfeffmbdpmaa.Ti Go.Proofs.Ytnojfeffmbdpmaa.Zs

theorem veil_poke {G : Nat → Bool} {w w' : World} {g : Nat} (h1 : w'.os = w.os) (h2 : w'.tape = w.tape) (h3 : w'.output = w.output) (h4 : w'.heap.size = w.heap.size) (same : ∀ k, k ≠ g → w'.heap[k]? = w.heap[k]?) : (veil G w).grownBy (veil G w') (some g) :=
  ⟨h1, h2, h3, by rw [veil_size, veil_size, h4]; exact Nat.le_refl _, fun k hk hne => by rw [veil_at, veil_at, same k fun e => hne (by rw [e])]⟩
/-- a write into a block of ranges in which no domain lies -/
theorem Trl.poke {G : Nat → Bool} {N : Nat} {w : World} {b g : Nat} {s : Sto} {vD vL : Value} {mc : Nat} {cs : List Value} {C : Array Value} (h : Trl G N (fun _ => True) w b s vD vL mc [] cs) (hg : Bx w g C 65) (hcs : ∀ u ∈ cs, u.ownBlock ≠ some g) (i : Nat) (x : Value) :
    Trl G N (fun _ => True) (w.setCell ⟨g, i, none⟩ x) b s vD vL mc [] cs := by
  have same : ∀ k, k ≠ g → (w.setCell ⟨g, i, none⟩ x).heap[k]? = w.heap[k]? := fun k hk => Below.heap_setCell _ _ _ _ (by simpa using hk)
  have hw := Lvs.nil h.lvs
  obtain ⟨D0, hD0, -⟩ := id h.chg
  refine ⟨?_, own_at h.rowD (Nat.le_refl _) fun k hk => same k (own_bx h.rowD hg (by decide) hk), fun j d hd => ?_, own_at h.rowL (Nat.le_refl _) fun k hk => same k (own_bx h.rowL hg (by decide) hk), ?_, h.chg.keep (Nat.le_refl _) (same mc (fun e => bx_map hg hD0 e.symm)), h.nod, h.gb, h.gD, h.gL, h.gM, h.ok⟩
  · have h1 := h.bx
    have ne : b ≠ g := by
      rintro rfl
      unfold Bx at *
      rw [h1] at hg
      injection hg with hg
      injection hg with _ e
      exact absurd e (by decide)
    unfold Bx at *
    rw [same b ne]; exact h1
  · obtain ⟨v, h1, h2⟩ := h.domD j d hd
    refine ⟨v, h1, Sl.kept (g := some g) (G := fun k => k = g) (Q := QR) (Q' := QR) (veil_poke (w := w) (w' := w.setCell ⟨g, i, none⟩ x) rfl rfl rfl (by simp [World.setCell]) same) (fun k hk => by injection hk with hk; exact hk.symm) (fun _ _ h => h) h2 ?_⟩
    · rintro k o n c rfl hn e
      exact hcs _ (List.mem_of_getElem? h1) (by rw [← e]; rfl)
  · rw [hw]; trivial
theorem Trl.cs_lt {G : Nat → Bool} {N : Nat} {P : Kp → Prop} {w : World} {b : Nat} {s : Sto} {vD vL : Value} {mc : Nat} {ms : List Nat} {cs : List Value} (h : Trl G N P w b s vD vL mc ms cs) : ∀ u ∈ cs, ∀ g, u.ownBlock = some g → g < w.heap.size := by
  intro u hu g hg
  obtain ⟨i, hi, rfl⟩ := List.mem_iff_getElem.1 hu
  have hl := h.rowD.1
  have hi2 : i < s.D.length := by omega
  obtain ⟨v, h1, h2⟩ := h.domD i s.D[i] (List.getElem?_eq_getElem hi2)
  rw [List.getElem?_eq_getElem hi] at h1
  injection h1 with h1
  rw [h1] at hg
  have hne := (h.ok.D _ (List.getElem_mem hi2)).2.1
  obtain ⟨A, c, e⟩ := h2.form
  subst e
  generalize s.D[i] = y at *
  have hy : 0 < y.length := by cases y with | nil => exact absurd rfl hne | cons a l => simp
  obtain ⟨b', o, e1, e2, e3⟩ := elR h2 hy
  subst e1
  have := World.block_lt_of_cell? _ _ (veil_cell e2).1
  have e4 : b' = g := by simpa [Value.ownBlock] using hg
  rw [← e4]; exact this
theorem Trl.at {G : Nat → Bool} {N : Nat} {w : World} {b : Nat} {s : Sto} {vD vL : Value} {mc : Nat} {ms : List Nat} {cs : List Value} (h : Trl G N (fun _ => True) w b s vD vL mc ms cs) : TrailAt G N w b s := ⟨_, _, _, _, _, h⟩
theorem bound_set {G : Nat → Bool} {w : World} (h : ∀ k, G k = true → k < w.heap.size) (a : Addr) (u : Value) : ∀ k, G k = true → k < (w.setCell a u).heap.size := fun k hk => by
  have := h k hk
  simpa [World.setCell] using this
theorem al8 : getD' (newD [[(1, 5)]]) 0 = [(1, 5)] := by rfl
theorem al9 : narrowD (newD [[(1, 5)]]) 0 [(2, 4)] = (⟨[[(2, 4)]], [], [true]⟩, true, 0) := by rfl
theorem al10 : getD' ⟨[[(2, 4)]], [], [true]⟩ 0 = [(2, 4)] := by rfl
/-- the store of the law, told in full -/
structure Mine (w : World) (G : Nat → Bool) (N : Nat) (wr : World) (b : Nat) (s : Sto) (cs : List Value) : Prop where
  t : ∃ vD vL mc, Trl G N (fun _ => True) wr b s vD vL mc [] cs
  k : Since w wr
  g : ∀ k, G k = true → k < wr.heap.size
  o : ∀ k, k < w.heap.size → G k = false
theorem Mine.since {w : World} {G : Nat → Bool} {N : Nat} {wr w' : World} {b : Nat} {s : Sto} {cs : List Value} (h : Mine w G N wr b s cs) (k : Since wr w') : Mine w G N w' b s cs := by
  obtain ⟨vD, vL, mc, t⟩ := h.t
  exact ⟨⟨vD, vL, mc, t.since k⟩, h.k.trans k, fun i hi => Nat.lt_of_lt_of_le (h.g i hi) k.size, h.o⟩
theorem Mine.poke {w : World} {G : Nat → Bool} {N : Nat} {wr : World} {b g : Nat} {s : Sto} {cs : List Value} {C : Array Value} (h : Mine w G N wr b s cs) (hg : Bx wr g C 65) (hcs : ∀ u ∈ cs, u.ownBlock ≠ some g) (hw : w.heap.size ≤ g) (i : Nat) (x : Value) : Mine w G N (wr.setCell ⟨g, i, none⟩ x) b s cs := by
  obtain ⟨vD, vL, mc, t⟩ := h.t
  exact ⟨⟨vD, vL, mc, t.poke hg hcs i x⟩, h.k.set hw x, bound_set h.g _ _, h.o⟩
theorem Mine.at {w : World} {G : Nat → Bool} {N : Nat} {wr : World} {b : Nat} {s : Sto} {cs : List Value} (h : Mine w G N wr b s cs) : TrailAt G N wr b s := by
  obtain ⟨vD, vL, mc, t⟩ := h.t; exact t.at
theorem new_mine {w0 w : World} {v : Value} {ds : Ds} (h : Sl 1 QD w v ds) (hl : ds.length ≤ 100000) (hb : BdD ds) (hr : rightD ds = true) (k0 : Since w0 w) :
    Calls Try.prog 9 #[v] w fun e w' => ∃ b G cs, e = .returned (.pointer (some ⟨b, 0, none⟩)) ∧ Mine w0 G 0 w' b (newD ds) cs ∧ Since w w' ∧ ∀ u ∈ cs, ∀ g, u.ownBlock = some g → w.heap.size ≤ g :=
  (tnew_trl v ds w h hl hb).mono fun e w' hh => by
    rcases hh with ⟨h1, -⟩ | ⟨-, b, G, h2, ⟨vD, vL, mc, cs, h3, h3'⟩, h4, h5, h6, h7⟩
    · rw [hr] at h1; cases h1
    · exact ⟨b, G, cs, h2, ⟨⟨vD, vL, mc, h3⟩, k0.trans h5, h6, fun k hk => h7 k (Nat.lt_of_lt_of_le hk k0.size)⟩, h5, h3'⟩
theorem narrow_mine {w : World} {G : Nat → Bool} {N : Nat} {wr : World} {b : Nat} {s s' : Sto} {cs : List Value} {x : Int} {vd : Value} {d : List Rn} {r : Bool} {z : Int} (h : Mine w G N wr b s cs) (hN : N < 1000000) (hd : Sl 2 QR wr vd d) (hb : Bd d) (hl : d.length ≤ 1100000) (e : narrowD s x d = (s', r, z)) :
    Calls Try.prog 12 #[.pointer (some ⟨b, 0, none⟩), .int .i64 x, vd] wr fun en w' => en = .returned (.tuple #[.bool r, .int .i64 z]) ∧ ∃ cs', Mine w G (N + 2) w' b s' cs' ∧ Turn G wr w' ∧ ∀ u ∈ cs', u ∈ cs ∨ ∀ g, u.ownBlock = some g → wr.heap.size ≤ g := by
  obtain ⟨vD, vL, mc, t⟩ := h.t
  have h1 := tnarrow_trl t h.g hN x vd d hd hb hl
  rw [e] at h1
  refine h1.mono fun en w' ⟨h2, ⟨cs', h3, h4⟩, T⟩ => ⟨h2, cs', ⟨⟨vD, vL, mc, h3⟩, ?_, fun i hi => Nat.lt_of_lt_of_le (h.g i hi) T.size, h.o⟩, T, h4⟩
  have hk := h.k.size
  exact Below.trans h.k ⟨T.os, T.tape, T.output, T.size, fun i hi => T.block i (by omega) (h.o i hi)⟩
theorem get_mine {w : World} {G : Nat → Bool} {N : Nat} {wr : World} {b : Nat} {s : Sto} {cs : List Value} {x : Int} {l : List Rn} (h : Mine w G N wr b s cs) (e : getD' s x = l) {n : Nat} (hn : l.length = n) :
    Calls Try.prog 26 #[.pointer (some ⟨b, 0, none⟩), .int .i64 x] wr fun en w' => ∃ A c, en = .returned (.slice A n c) ∧ Sl 2 QR w' (.slice A n c) l ∧ Since wr w' ∧ ∀ b, (Value.slice A n c).ownBlock = some b → wr.heap.size ≤ b ∧ ∀ j, w'.frozen? ⟨b, j, none⟩ = false := by
  have h1 := tget_new h.at h.g x
  rw [e] at h1
  exact h1.mono fun en w' ⟨v, h2, h3, h4, h5⟩ => by
    obtain ⟨A, c, rfl⟩ := h3.form
    rw [hn] at h2 h3 h5
    exact ⟨A, c, h2, sl_unveil h3, h4, h5⟩
theorem all_mine {w : World} {G : Nat → Bool} {N : Nat} {wr : World} {b : Nat} {s : Sto} {cs : List Value} (h : Mine w G N wr b s cs) {n : Nat} (hn : s.D.length = n) :
    Calls Try.prog 22 #[.pointer (some ⟨b, 0, none⟩)] wr fun en w' => ∃ A c R, en = .returned (.slice A n c) ∧ Sl 1 (fun _ => NewD wr R w') w' (.slice A n c) s.D ∧ Since wr w' :=
  (all_new h.at h.g).mono fun en w' ⟨v, h2, h3, h4, h5, h6⟩ => by
    obtain ⟨A, c, rfl⟩ := h3.form
    rw [hn] at h2 h6
    exact ⟨A, c, _, h2, h6, h4⟩
end Go.Proofs.Ytnojfeffmbdpmaa.Tr
