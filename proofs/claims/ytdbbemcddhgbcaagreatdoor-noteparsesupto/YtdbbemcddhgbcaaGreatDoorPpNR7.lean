import Derived.Test.YtdbbemcddhgbcaaGreatDoorPpNR5
import Derived.Deep.MidRow
/- Layer 22, the law: the book while its lists are marked and grown -/
namespace Go.Proofs.YtdbbemcddhgbcaaGreatDoor
open Go.RowKit Go.Shelf
namespace Nt
abbrev Ls := Option Addr × Nat × Nat
def gvs (G : List Ls) : List Value := G.map fun x => .slice x.1 x.2.1 x.2.2
theorem gvs_one (G : List Ls) (a : Option Addr) (n c : Nat) : gvs G ++ [.slice a n c] = gvs (G ++ [(a, n, c)]) := by unfold gvs; rw [List.map_append]; rfl
/-- the book: the first m lists are marked; those are held in the list of lists -/
structure Sv (w0 : World) (ρ : Nat → Nat) (w : World) (gb : Nat) (E : List En) (nV wV lV : Value) (m : Nat) (G : List Ls) : Prop where
  c : Kx w gb nV wV lV
  r : ρ gb = 0
  ln : Rl ρ 1 4 w nV E.length (ncs E)
  lw : Rl ρ 2 4 w wV E.length (wcs E)
  lv : ∀ (i : Nat) (e : En), E[i]? = some e → m ≤ i → Rl ρ (5 + i) 2 w e.2.1 e.1.S.length (sgs e.1.S)
  lu : ∀ (i : Nat) (e : En), E[i]? = some e → Rl ρ 3 2 w e.2.2 e.1.S.length (sgs e.1.S)
  ll : Rl ρ 4 1 w lV G.length (gvs G)
  gl : ∀ (j : Nat) (x : Ls), G[j]? = some x → Mk ρ w (5 + j / 40) (mkT (j / 40)) x.1 x.2.1
  sz : ∀ e ∈ E, e.1.S.length ≤ 16
  few : E.length ≤ 100
  bb : Below w0.heap.size w0 w
  lo : ∀ k, k < w0.heap.size → ρ k = 1000000
theorem Bk.sv {w0 : World} {ρ : Nat → Nat} {w : World} {gb : Nat} {E : List En} {nV wV : Value} (h : Bk ρ w gb E nV wV (.slice none 0 0)) (bb : Below w0.heap.size w0 w) (lo : ∀ k, k < w0.heap.size → ρ k = 1000000) : Sv w0 ρ w gb E nV wV (.slice none 0 0) 0 [] :=
  ⟨h.c, h.r, h.ln, h.lw, fun i e he _ => h.lv i e he, h.lu, Rl.nil _ _ _ _, fun j x hx => (by simp at hx), h.sz, h.few, bb, lo⟩
theorem Below.stp {T : Nat → Prop} {ρ ρ' : Nat → Nat} {w0 w w' : World} (h : Below w0.heap.size w0 w) (lo : ∀ k, k < w0.heap.size → ρ k = 1000000) (s : Stp T ρ ρ' w w') (hT : ¬ T 1000000) : Below w0.heap.size w0 w' ∧ ∀ k, k < w0.heap.size → ρ' k = 1000000 :=
  ⟨⟨s.os.trans h.os, s.tape.trans h.tape, s.output.trans h.output, Nat.le_trans h.size s.size, fun k hk => (s.old k (Nat.lt_of_lt_of_le hk h.size) (by rw [lo k hk]; exact hT)).trans (h.block k hk)⟩, fun k hk => (s.ext k (Nat.lt_of_lt_of_le hk h.size)).trans (lo k hk)⟩
theorem Sv.keep {T : Nat → Prop} {w0 : World} {ρ ρ' : Nat → Nat} {w w' : World} {gb m q : Nat} {E : List En} {nV wV lV : Value} {G : List Ls} (h : Sv w0 ρ w gb E nV wV lV m G) (s : Stp T ρ ρ' w w') (hT : ∀ r, T r → r = 5 + q) (hq : q < m) (hq1 : q ≤ 1000) (hG : ∀ j x, G[j]? = some x → j / 40 = q → Mk ρ' w' (5 + q) (mkT q) x.1 x.2.1) : Sv w0 ρ' w' gb E nV wV lV m G := by
  have hl := lt_of_heap h.c
  have no : ∀ r, r ≠ 5 + q → ¬ T r := fun r hr e => hr (hT r e)
  have hn6 : ¬ T 1000000 := no _ (by omega)
  refine ⟨h.c.kept (s.old gb hl (by rw [h.r]; exact no 0 (by omega))), (s.ext gb hl).trans h.r, h.ln.step s (no 1 (by omega)), h.lw.step s (no 2 (by omega)), fun i e he hi => (h.lv i e he hi).step s (no _ (by omega)), fun i e he => (h.lu i e he).step s (no 3 (by omega)), h.ll.step s (no 4 (by omega)), fun j x hx => ?_, h.sz, h.few, (Below.stp h.bb h.lo s hn6).1, (Below.stp h.bb h.lo s hn6).2⟩
  by_cases hj : j / 40 = q
  · have := hG j x hx hj
    rw [hj]; exact this
  · exact (h.gl j x hx).step s (no _ (by omega))
theorem Sv.stay {w0 : World} {ρ ρ' : Nat → Nat} {w w' : World} {gb m : Nat} {E : List En} {nV wV lV : Value} {G : List Ls} (h : Sv w0 ρ w gb E nV wV lV m G) (s : Stp (fun _ => False) ρ ρ' w w') : Sv w0 ρ' w' gb E nV wV lV m G := by
  have hl := lt_of_heap h.c
  exact ⟨h.c.kept (s.old gb hl id), (s.ext gb hl).trans h.r, h.ln.step s id, h.lw.step s id, fun i e he hi => (h.lv i e he hi).step s id, fun i e he => (h.lu i e he).step s id, h.ll.step s id, fun j x hx => (h.gl j x hx).step s id, h.sz, h.few, (Below.stp h.bb h.lo s id).1, (Below.stp h.bb h.lo s id).2⟩
theorem infoLs : (Tryz.prog.info? 24).map (fun i => (i.zero, i.size, i.bytes)) = some (some (.slice none 0 0), 1, 24) := by kernel_rfl
theorem append_ls (w : World) (v : Value) (k : Nat) (cs : List Value) (a : Option Addr) (n c : Nat) (hown : Wz.OwnM 1 w v k cs) (hb : k ≤ 100000) :
    ∃ v' w', (Builtin.append_ #[36, 36] 36 #[v, .slice (some ⟨w.heap.size, 0, none⟩) 1 1]).run Tryz.prog (w.alloc (.cells #[.slice a n c] 24)) = .ok v' w' ∧ Wz.OwnM 1 w' v' (k + 1) (cs ++ [.slice a n c]) ∧ Wz.Grow w w' v v' :=
  Wz.append_oneL 36 24 (.slice none 0 0) 24 Tryz.underlying36 infoLs rfl w v k cs [.slice a n c] rfl (fun u hu => by
    simp only [List.mem_cons, List.not_mem_nil, or_false] at hu
    rcases hu with rfl <;> rfl) hown (by omega) (by rw [maxLen]; omega)
theorem Sv.push {w0 : World} {ρ : Nat → Nat} {w : World} {gb m : Nat} {E : List En} {nV wV lV : Value} {G : List Ls} (h : Sv w0 ρ w gb E nV wV lV m G) (hG : G.length ≤ 100000) (a : Option Addr) (n c : Nat) (hm : Mk ρ w (5 + G.length / 40) (mkT (G.length / 40)) a n) :
    ∃ lV' w1 ρ', (Builtin.append_ #[36, 36] 36 #[lV, .slice (some ⟨w.heap.size, 0, none⟩) 1 1]).run Tryz.prog (w.alloc (.cells #[.slice a n c] 24)) = .ok lV' w1 ∧
      Kx w1 gb nV wV lV ∧ Sv w0 ρ' (w1.setCell ⟨gb, 2, none⟩ lV') gb E nV wV lV' m (G ++ [(a, n, c)]) ∧ Stp (fun r => r = 4 ∨ r = 0) ρ ρ' w (w1.setCell ⟨gb, 2, none⟩ lV') := by
  obtain ⟨lV', w1, r1, o1, g1⟩ := append_ls w lV G.length (gvs G) a n c h.ll.own hG
  have hl := lt_of_heap h.c
  have s1 : Stp (fun r => r = 4 ∨ r = 0) ρ (extR ρ w 4) w w1 := Stp.grow g1 h.ll.role (.inl rfl)
  have s1' : Stp (fun r => r = 4) ρ (extR ρ w 4) w w1 := Stp.grow g1 h.ll.role rfl
  have l1 := h.ll.grown g1 o1
  rw [gvs_one] at l1
  generalize extR ρ w 4 = ρ1 at *
  have k1 := h.c.kept (s1'.old gb hl (by rw [h.r]; decide))
  have r1' : ρ1 gb = 0 := (s1.ext gb hl).trans h.r
  have s2' : Stp (fun r => r = 0) ρ1 ρ1 w1 (w1.setCell ⟨gb, 2, none⟩ lV') := Stp.but ((But.refl gb w1).setCell _ _) r1'
  have s2 := s2'.weak (T' := fun r => r = 4 ∨ r = 0) fun _ e => .inr e
  have s := s1.trans s2
  refine ⟨lV', w1, ρ1, r1, k1, ⟨k1.set2 lV', r1', h.ln.step s (by decide), h.lw.step s (by decide), fun i e he hi => (h.lv i e he hi).step s (by omega), fun i e he => (h.lu i e he).step s (by decide), ?_, fun j x hx => ?_, h.sz, h.few, (Below.stp h.bb h.lo s (by decide)).1, (Below.stp h.bb h.lo s (by decide)).2⟩, s⟩
  · rw [List.length_append]; exact l1.step s2' (by decide)
  · by_cases hj : j < G.length
    · rw [List.getElem?_append_left hj] at hx
      exact (h.gl j x hx).step s (by omega)
    · have hj2 := (List.getElem?_eq_some_iff.1 hx).1
      rw [List.length_append, List.length_singleton] at hj2
      obtain rfl : j = G.length := by omega
      rw [List.getElem?_append_right (Nat.le_refl _), Nat.sub_self] at hx
      obtain rfl := Option.some.inj hx
      exact hm.step s (by omega)
theorem Gx.kept {w w' : World} {g : Nat} {X Y : ByteArray} (h : Gx w g X Y) (e : w'.heap[g]? = w.heap[g]?) : Gx w' g X Y := e.trans h
/-- while a marked list grows -/
structure Gs (w0 : World) (ρ : Nat → Nat) (w : World) (gb : Nat) (E : List En) (nV wV lV : Value) (q : Nat) (G : List Ls) (la : Option Addr) (N c gm : Nat) : Prop where
  s : Sv w0 ρ w gb E nV wV lV (q + 1) G
  l : Rl ρ (5 + q) 2 w (.slice la N c) N (sgs (rep (mkT q) N))
  o : ∀ j x, G[j]? = some x → j / 40 = q → ∀ g g', x.1 = some g → la = some g' → g.block = g'.block → x.2.1 ≤ N
  b : Gx w gm (mkT q) ⟨#[]⟩
  rb : ρ gm = 1000001
theorem Gs.round {w0 : World} {ρ : Nat → Nat} {w : World} {gb : Nat} {E : List En} {nV wV lV : Value} {q : Nat} {G : List Ls} {la : Option Addr} {N c gm : Nat} (h : Gs w0 ρ w gb E nV wV lV q G la N c gm) (kk : Nat) (hk : kk < 40) (hG : G.length = 40 * q + kk) (hN : N ≤ 60) (hq : q ≤ 100) :
    ∃ lV' w1 la' c' w2 ρ', (Builtin.append_ #[36, 36] 36 #[lV, .slice (some ⟨w.heap.size, 0, none⟩) 1 1]).run Tryz.prog (w.alloc (.cells #[.slice la N c] 24)) = .ok lV' w1 ∧ Kx w1 gb nV wV lV ∧ Gx (w1.setCell ⟨gb, 2, none⟩ lV') gm (mkT q) ⟨#[]⟩ ∧
      (Builtin.append_ #[24, 24] 24 #[.slice la N c, .slice (some ⟨w1.heap.size, 0, none⟩) 1 1]).run Tryz.prog ((w1.setCell ⟨gb, 2, none⟩ lV').alloc (.cells #[.string (mkT q), .string ⟨#[]⟩] 32)) = .ok (.slice la' (N + 1) c') w2 ∧
      Gs w0 ρ' w2 gb E nV wV lV' q (G ++ [(la, N, c)]) la' (N + 1) c' gm := by
  have hd : G.length / 40 = q := by rw [hG]; omega
  obtain ⟨lV', w1, ρ1, r1, k1, h1, s1⟩ := h.s.push (by omega) la N c (by rw [hd]; exact ownM_mk h.l (Nat.le_refl _) (by omega))
  have l1 := h.l.step s1 (by omega)
  have hb := lt_of_heap h.b
  have b1 := h.b.kept (s1.old gm hb (by rw [h.rb]; decide))
  have rb1 := (s1.ext gm hb).trans h.rb
  have hsz := size_setCell22 w1 ⟨gb, 2, none⟩ lV'
  obtain ⟨w1', hw⟩ : ∃ w1', w1.setCell ⟨gb, 2, none⟩ lV' = w1' := ⟨_, rfl⟩
  rw [hw] at h1 s1 l1 b1 hsz
  obtain ⟨v2, w2, r2, o2, g2⟩ := append_sg w1' (.slice la N c) (rep (mkT q) N) (mkT q) ⟨#[]⟩ (by rw [rep_len]; exact l1.own) (by rw [rep_len]; omega)
  rw [rep_len, rep_succ] at o2
  obtain ⟨la', c', rfl, -, -⟩ := o2.shape
  rw [hsz] at r2
  have s2 : Stp (fun r => r = 5 + q) ρ1 (extR ρ1 w1' (5 + q)) w1' w2 := Stp.grow g2 l1.role rfl
  have hall : ∀ j x, (G ++ [(la, N, c)])[j]? = some x → j / 40 = q → Mk (extR ρ1 w1' (5 + q)) w2 (5 + q) (mkT q) x.1 x.2.1 ∧ ∀ g g', x.1 = some g → la' = some g' → g.block = g'.block → x.2.1 ≤ N + 1 := fun j x hx hj => by
    have hm := h1.gl j x hx
    rw [hj] at hm
    refine hm.grow (fun g g' e e' eb => ?_) l1 g2 (Nat.le_succ _) o2
    by_cases hjl : j < G.length
    · rw [List.getElem?_append_left hjl] at hx
      exact h.o j x hx hj g g' e e' eb
    · have hj2 := (List.getElem?_eq_some_iff.1 hx).1
      rw [List.length_append, List.length_singleton] at hj2
      obtain rfl : j = G.length := by omega
      rw [List.getElem?_append_right (Nat.le_refl _), Nat.sub_self] at hx
      obtain rfl := Option.some.inj hx
      exact Nat.le_refl _
  have hb2 := lt_of_heap b1
  exact ⟨lV', w1, la', c', w2, _, r1, k1, (by rw [hw]; exact b1), (by rw [hw]; exact r2), ⟨h1.keep s2 (fun r e => e) (Nat.lt_succ_self _) (by omega) fun j x hx hj => (hall j x hx hj).1, l1.grown g2 o2, fun j x hx hj => (hall j x hx hj).2, b1.kept (s2.old gm hb2 (by rw [rb1]; omega)), (s2.ext gm hb2).trans rb1⟩⟩
end Nt
end Go.Proofs.YtdbbemcddhgbcaaGreatDoor

/- Layer 22, the law: a list is marked, one signature more -/
namespace Go.Proofs.YtdbbemcddhgbcaaGreatDoor
open Go.RowKit Go.Shelf
namespace Nt
theorem mark_cs {X : ByteArray} {S : List Sg} {k : Nat} {s : Sg} (h : S[k]? = some s) : sgs (rep X k ++ S.drop k) = sgs (rep X k) ++ ([.string s.1, .string s.2] ++ sgs (S.drop (k + 1))) ∧ sgs (rep X (k + 1) ++ S.drop (k + 1)) = sgs (rep X k) ++ ([.string X, .string ⟨#[]⟩] ++ sgs (S.drop (k + 1))) := by
  have hk := (List.getElem?_eq_some_iff.1 h).1
  have e := (List.getElem?_eq_some_iff.1 h).2
  constructor
  · rw [sgs_app, List.drop_eq_getElem_cons hk, e]; rfl
  · rw [sgs_app, ← rep_succ, sgs_app, List.append_assoc]; rfl
theorem own_mark {w : World} {X : ByteArray} {S : List Sg} {k n c : Nat} {la : Option Addr} (h : Wz.OwnM 2 w (.slice la n c) n (sgs (rep X k ++ S.drop k))) (hk : k < n) (hn : S.length = n) :
    ∃ g, la = some ⟨g, 0, none⟩ ∧ w.there g (k * 2) 2 ∧ Wz.OwnM 2 (w.setCells g (k * 2) [.string X, .string ⟨#[]⟩]) (.slice la n c) n (sgs (rep X (k + 1) ++ S.drop (k + 1))) := by
  obtain ⟨s, hs⟩ : ∃ s, S[k]? = some s := ⟨_, List.getElem?_eq_getElem (by omega)⟩
  obtain ⟨e1, e2⟩ := mark_cs (X := X) hs
  have hl0 : (sgs (rep X k)).length = k * 2 := by rw [sgs_len, rep_len]
  rcases h with ⟨_, h0, _⟩ | ⟨g, cap, e, h2, h3, h4, h5, h6, h7⟩
  · omega
  cases e
  have ht : w.there g (k * 2) 2 := fun j hj => by
    have := h6 (k * 2 + j) (by have : k * 2 + 2 ≤ c * 2 := by omega
                               omega)
    rw [Nat.zero_add] at this
    exact this
  have hz : (w.setCells g (k * 2) [.string X, .string ⟨#[]⟩]).heap.size = w.heap.size := by simp [World.setCells, World.setCell]
  refine ⟨g, rfl, ht, .inr ⟨g, c, rfl, h2, h3, ?_, fun j v hv => ?_, World.there_setCells h6 _ _ _, by rw [hz]; exact h7⟩⟩
  · rw [e2]; rw [e1] at h4
    simp only [List.length_append, List.length_cons, List.length_nil] at h4 ⊢
    exact h4
  · rw [Nat.zero_add]
    rw [e2] at hv
    by_cases h8 : j < k * 2
    · rw [World.cell?_setCells_out _ _ _ _ _ (fun _ _ => .inl h8)]
      have := h5 j v (by rw [e1, List.getElem?_append_left (by omega)]; rw [List.getElem?_append_left (by omega)] at hv; exact hv)
      rwa [Nat.zero_add] at this
    · rw [List.getElem?_append_right (by omega), hl0] at hv
      by_cases h9 : j - k * 2 < 2
      · rw [List.getElem?_append_left h9] at hv
        have := World.rangeAt_setCells_same w g (k * 2) [.string X, .string ⟨#[]⟩] ht (j - k * 2) v hv
        rwa [show k * 2 + (j - k * 2) = j by omega] at this
      · rw [World.cell?_setCells_out _ _ _ _ _ (fun _ _ => .inr (by show k * 2 + 2 ≤ j; omega))]
        have := h5 j v (by rw [e1, List.getElem?_append_right (by omega), hl0, List.getElem?_append_right (by show 2 ≤ j - k * 2; omega)]; rw [List.getElem?_append_right (by show 2 ≤ j - k * 2; omega)] at hv; exact hv)
        rwa [Nat.zero_add] at this
/-- while a list is marked -/
structure Ms (w0 : World) (ρ : Nat → Nat) (w : World) (gb : Nat) (E : List En) (nV wV lV : Value) (q : Nat) (G : List Ls) (la : Option Addr) (n c gm : Nat) (S : List Sg) (k : Nat) : Prop where
  s : Sv w0 ρ w gb E nV wV lV (q + 1) G
  l : Rl ρ (5 + q) 2 w (.slice la n c) n (sgs (rep (mkT q) k ++ S.drop k))
  b : Gx w gm (mkT q) ⟨#[]⟩
  rb : ρ gm = 1000001
theorem Ms.round {w0 : World} {ρ : Nat → Nat} {w : World} {gb : Nat} {E : List En} {nV wV lV : Value} {q : Nat} {G : List Ls} {la : Option Addr} {n c gm : Nat} {S : List Sg} {k : Nat} (h : Ms w0 ρ w gb E nV wV lV q G la n c gm S k) (hk : k < n) (hn : S.length = n) (hG : G.length = 40 * q) (hq : q ≤ 100) :
    ∃ g, la = some ⟨g, 0, none⟩ ∧ w.there g (k * 2) 2 ∧ Ms w0 ρ (w.setCells g (k * 2) [.string (mkT q), .string ⟨#[]⟩]) gb E nV wV lV q G la n c gm S (k + 1) := by
  obtain ⟨g, e, ht, o⟩ := own_mark h.l.own hk hn
  subst e
  have rg : ρ g = 5 + q := h.l.role g rfl
  have bb : But g w (w.setCells g (k * 2) [.string (mkT q), .string ⟨#[]⟩]) := ((But.refl g w).setCell (k * 2) _).setCell (k * 2 + 1) _
  have s : Stp (fun r => r = 5 + q) ρ ρ w (w.setCells g (k * 2) [.string (mkT q), .string ⟨#[]⟩]) := Stp.but bb rg
  refine ⟨g, rfl, ht, ⟨h.s.keep s (fun _ e => e) (Nat.lt_succ_self _) (by omega) fun j x hx hj => ?_, ⟨o, h.l.role⟩, h.b.kept (s.old gm (lt_of_heap h.b) (by rw [h.rb]; omega)), h.rb⟩⟩
  have := (List.getElem?_eq_some_iff.1 hx).1
  omega
theorem Ms.first {w0 : World} {ρ : Nat → Nat} {w : World} {gb : Nat} {E : List En} {nV wV lV : Value} {q : Nat} {G : List Ls} (h : Sv w0 ρ w gb E nV wV lV q G) {e : En} (he : E[q]? = some e) {la : Option Addr} {n c gm : Nat} (hv : e.2.1 = .slice la n c) (hn : e.1.S.length = n) (b : Gx w gm (mkT q) ⟨#[]⟩) (rb : ρ gm = 1000001) : Ms w0 ρ w gb E nV wV lV q G la n c gm e.1.S 0 := by
  have l := h.lv q e he (Nat.le_refl _)
  rw [hv, hn] at l
  exact ⟨⟨h.c, h.r, h.ln, h.lw, fun i e he hi => h.lv i e he (by omega), h.lu, h.ll, h.gl, h.sz, h.few, h.bb, h.lo⟩, by simpa [rep] using l, b, rb⟩
theorem Ms.last {w0 : World} {ρ : Nat → Nat} {w : World} {gb : Nat} {E : List En} {nV wV lV : Value} {q : Nat} {G : List Ls} {la : Option Addr} {n c gm : Nat} {S : List Sg} (h : Ms w0 ρ w gb E nV wV lV q G la n c gm S n) (hn : S.length = n) (hG : G.length = 40 * q) : Gs w0 ρ w gb E nV wV lV q G la n c gm := by
  refine ⟨h.s, ?_, fun j x hx hj => ?_, h.b, h.rb⟩
  · have := h.l
    rw [List.drop_of_length_le (by omega), List.append_nil] at this
    exact this
  · have := (List.getElem?_eq_some_iff.1 hx).1
    omega
end Nt
end Go.Proofs.YtdbbemcddhgbcaaGreatDoor
