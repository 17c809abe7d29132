import Derived.Test.YtkamjpjmdibfgaaPkKS8
/- Layer 15, the law: two pairs -/
namespace Go.Proofs.Ytkamjpjmdibfgaa
open Go.RowKit Go.Maps
namespace Kc
/-- one pair, made behind w0, apart from two blocks -/
structure Sp (w0 w : World) (r1 r2 a : Nat) (g : Option Nat) (x : Nat) (v : Value) (B c : Nat) (L : List En) (f m o : Nat) : Prop where
  pr : Pr w a g x v B c L f m o
  ge : ∀ k, Fw a g L x v k → w0.heap.size ≤ k ∧ k ≠ r1 ∧ k ≠ r2
def pRow (a x : Nat) : Obj := .cells #[.pointer (some ⟨a, 0, none⟩), .pointer (some ⟨x, 0, none⟩)] 33 (0, 0)
/-- both pairs, or one that is both, and the two variables that hold them -/
structure St (w0 w : World) (r1 r2 b y a x c : Nat) : Prop where
  bl : Below w0.heap.size w0 w
  h1 : w.heap[r1]? = some (pRow b y)
  h2 : w.heap[r2]? = some (pRow a x)
  ps : (a = b ∧ x = y ∧ ∃ g v B L f m o, Sp w0 w r1 r2 b g y v B c L f m o) ∨ ∃ g v B L f m o g' v' B' L' f' m' o', Sp w0 w r1 r2 b g y v B c L f m o ∧ Sp w0 w r1 r2 a g' x v' B' c L' f' m' o' ∧ ∀ k, Fw b g L y v k → ¬ Fw a g' L' x v' k
theorem Sp.below {w0 w w' : World} {r1 r2 a : Nat} {g : Option Nat} {x : Nat} {v : Value} {B c : Nat} {L : List En} {f m o : Nat} (h : Sp w0 w r1 r2 a g x v B c L f m o) (b : Below w.heap.size w w') : Sp w0 w' r1 r2 a g x v B c L f m o := ⟨h.pr.below b, h.ge⟩
theorem St.below {w0 w w' : World} {r1 r2 b y a x c : Nat} (h : St w0 w r1 r2 b y a x c) (hb : Below w.heap.size w w') : St w0 w' r1 r2 b y a x c := by
  refine ⟨h.bl.trans (hb.mono h.bl.size), (hb.block r1 (lt_of_heap h.h1)).trans h.h1, (hb.block r2 (lt_of_heap h.h2)).trans h.h2, ?_⟩
  rcases h.ps with ⟨e1, e2, g, v, B, L, f, m, o, h1⟩ | ⟨g, v, B, L, f, m, o, g', v', B', L', f', m', o', h1, h2, h3⟩
  · exact .inl ⟨e1, e2, g, v, B, L, f, m, o, h1.below hb⟩
  · exact .inr ⟨g, v, B, L, f, m, o, g', v', B', L', f', m', o', h1.below hb, h2.below hb, h3⟩
/-- what a step leaves of its pair -/
theorem Sp.step {w0 w w' : World} {r1 r2 a : Nat} {g g' : Option Nat} {x : Nat} {v v' : Value} {B c c' : Nat} {L L' : List En} {f m o f' m' o' : Nat} (h : Sp w0 w r1 r2 a g x v B c L f m o) (hs : w0.heap.size ≤ w.heap.size) (l1 : r1 < w.heap.size) (l2 : r2 < w.heap.size) (R1 : Pr w' a g' x v' B c' L' f' m' o') (R3 : ∀ k, Fw a g' L' x v' k → Fw a g L x v k ∨ w.heap.size ≤ k) : Sp w0 w' r1 r2 a g' x v' B c' L' f' m' o' :=
  ⟨R1, fun k hk => (R3 k hk).elim (h.ge k) fun e => ⟨by omega, by omega, by omega⟩⟩
theorem St.now {w0 w : World} {r1 r2 b y a x c : Nat} (h : St w0 w r1 r2 b y a x c) {d z : Nat} (hd : (d = b ∧ z = y) ∨ (d = a ∧ z = x)) :
    ∃ g v B L f m o, Pr w d g z v B c L f m o ∧ ∀ w', Pw w d g z v B L (c + 1) w' → St w0 w' r1 r2 b y a x (c + 1) := by
  have hs := h.bl.size
  have l1 := lt_of_heap h.h1
  have l2 := lt_of_heap h.h2
  rcases h.ps with ⟨rfl, rfl, g, v, B, L, f, m, o, p1⟩ | ⟨g, v, B, L, f, m, o, g', v', B', L', f', m', o', p1, p2, p3⟩
  · obtain ⟨rfl, rfl⟩ : d = a ∧ z = x := by rcases hd with h | h <;> exact h
    refine ⟨g, v, B, L, f, m, o, p1.pr, ?_⟩
    rintro w' ⟨g', v', L', f', m', o', R1, R2, R3⟩
    exact ⟨below_keep h.bl R2 (fun k hk => (p1.ge k hk).1) hs, (R2.block r1 l1 fun e => (p1.ge r1 e).2.1 rfl).trans h.h1, (R2.block r2 l2 fun e => (p1.ge r2 e).2.2 rfl).trans h.h2, .inl ⟨rfl, rfl, g', v', B, L', f', m', o', p1.step hs l1 l2 R1 R3⟩⟩
  · rcases hd with ⟨rfl, rfl⟩ | ⟨rfl, rfl⟩
    · refine ⟨g, v, B, L, f, m, o, p1.pr, ?_⟩
      rintro w' ⟨g1, v1, L1, f1, m1, o1, R1, R2, R3⟩
      refine ⟨below_keep h.bl R2 (fun k hk => (p1.ge k hk).1) hs, (R2.block r1 l1 fun e => (p1.ge r1 e).2.1 rfl).trans h.h1, (R2.block r2 l2 fun e => (p1.ge r2 e).2.2 rfl).trans h.h2, .inr ⟨g1, v1, B, L1, f1, m1, o1, g', v', B', L', f', m', o', p1.step hs l1 l2 R1 R3, ⟨(p2.pr.keep R2 fun k hk e => p3 k e hk).mono (Nat.le_succ c), p2.ge⟩, fun k hk e => ?_⟩⟩
      rcases R3 k hk with h1 | h1
      · exact p3 k h1 e
      · have := p2.pr.lt k e; omega
    · refine ⟨g', v', B', L', f', m', o', p2.pr, ?_⟩
      rintro w' ⟨g1, v1, L1, f1, m1, o1, R1, R2, R3⟩
      refine ⟨below_keep h.bl R2 (fun k hk => (p2.ge k hk).1) hs, (R2.block r1 l1 fun e => (p2.ge r1 e).2.1 rfl).trans h.h1, (R2.block r2 l2 fun e => (p2.ge r2 e).2.2 rfl).trans h.h2, .inr ⟨g, v, B, L, f, m, o, g1, v1, B', L1, f1, m1, o1, ⟨(p1.pr.keep R2 fun k hk e => p3 k hk e).mono (Nat.le_succ c), p1.ge⟩, p2.step hs l1 l2 R1 R3, fun k hk e => ?_⟩⟩
      rcases R3 k e with h1 | h1
      · exact p3 k hk h1
      · have := p1.pr.lt k hk; omega
/-- the keys of one of them -/
theorem St.keys {w0 w : World} {r1 r2 b y a x c : Nat} (h : St w0 w r1 r2 b y a x c) (hc : c ≤ 1000) {d z : Nat} (hd : (d = b ∧ z = y) ∨ (d = a ∧ z = x)) :
    Calls Try.prog 9 #[.agg #[.pointer (some ⟨d, 0, none⟩), .pointer (some ⟨z, 0, none⟩)]] w fun r w' => r = .returned (.bool true) ∧ Below w.heap.size w w' := by
  obtain ⟨g, v, B, L, f, m, o, P, _⟩ := h.now hd
  have := P.ch.cb
  exact pkeys_any P.ch P.rf (by omega)
/-- a step of one of them -/
theorem St.plays {w0 w : World} {r1 r2 b y a x c : Nat} (h : St w0 w r1 r2 b y a x c) (hc : c ≤ 1000) {d z : Nat} (hd : (d = b ∧ z = y) ∨ (d = a ∧ z = x)) (O : Bool) (K N : Int) (hN1 : -9223372036854775808 ≤ N) (hN2 : N ≤ 9223372036854775807) (k v : List UInt8) (hk : k.length ≤ 2305843009213693952) (hv : v.length ≤ 2305843009213693952) :
    Calls Try.prog 8 #[.agg #[.pointer (some ⟨d, 0, none⟩), .pointer (some ⟨z, 0, none⟩)], .agg #[.bool O, .int .i64 K, .int .i64 N, .string ⟨k.toArray⟩, .string ⟨v.toArray⟩]] w fun r w' => r = .returned (.bool true) ∧ St w0 w' r1 r2 b y a x (c + 1) := by
  obtain ⟨g, v, B, L, f, m, o, P, hP⟩ := h.now hd
  exact (play_any P hc O K N hN1 hN2 k _ hk hv).mono fun _ w' ⟨h1, h2⟩ => ⟨h1, hP w' h2⟩
/-- a pair that is new -/
theorem fw_new {a x k : Nat} (h : Fw a none [] x (.slice none 0 0) k) : k = a ∨ k = x := by
  rcases h with (h | h) | (h | h)
  · rcases List.mem_cons.1 h with h | h
    · exact .inl h
    · cases h
  · cases h
  · exact .inr h
  · cases h
theorem pr_new {w w1 w2 : World} {B : Nat} (hC : Ch w1 w.heap.size none B 0 [] 0 0 0) (hR : Rf w2 w1.heap.size B (.slice none 0 0) [] 0 0 0) (b : Below w1.heap.size w1 w2) : Pr w2 w.heap.size none w1.heap.size (.slice none 0 0) B 0 [] 0 0 0 := by
  refine ⟨hC.below b, hR, fun k hk e => ?_⟩
  have h1 : k < w1.heap.size := fg_lt hC k hk
  rcases e with e | e
  · omega
  · cases e
/-- as the law begins, where there is one pair alone -/
theorem st_one {w0 w w1 w2 : World} {B : Nat} (b0 : Below w0.heap.size w0 w) (hC : Ch w1 w.heap.size none B 0 [] 0 0 0) (b1 : Below w.heap.size w w1) (hR : Rf w2 w1.heap.size B (.slice none 0 0) [] 0 0 0) (b2 : Below w1.heap.size w1 w2) {b y : Nat} (hb : w.heap.size = b) (hy : w1.heap.size = y) :
    St w0 ((w2.alloc (pRow b y)).alloc (pRow b y)) w2.heap.size (w2.heap.size + 1) b y b y 0 := by
  subst hb hy
  have P := pr_new hC hR b2
  have b3 : Below w2.heap.size w2 ((w2.alloc (pRow w.heap.size w1.heap.size)).alloc (pRow w.heap.size w1.heap.size)) := ((Below.refl _ _).alloc (Nat.le_refl _) _).alloc (by rw [size_alloc]; omega) _
  have z0 := b0.size
  have z1 := b1.size
  have z2 := b2.size
  have r1 : ((w2.alloc (pRow w.heap.size w1.heap.size)).alloc (pRow w.heap.size w1.heap.size)).heap[w2.heap.size + 1]? = some (pRow w.heap.size w1.heap.size) := heap_alloc_at _ _ _ (size_alloc _ _)
  have r0 : ((w2.alloc (pRow w.heap.size w1.heap.size)).alloc (pRow w.heap.size w1.heap.size)).heap[w2.heap.size]? = some (pRow w.heap.size w1.heap.size) := by
    rw [((Below.refl (w2.alloc (pRow w.heap.size w1.heap.size)).heap.size (w2.alloc (pRow w.heap.size w1.heap.size))).alloc (Nat.le_refl _) (pRow w.heap.size w1.heap.size)).block _ (by rw [size_alloc]; omega)]
    exact heap_alloc_new _ _
  refine ⟨((b0.trans (b1.mono z0)).trans (b2.mono (by omega))).trans (b3.mono (by omega)), r0, r1, .inl ⟨rfl, rfl, _, _, _, _, _, _, _, ⟨P.below b3, fun k hk => ?_⟩⟩⟩
  have h1 := P.lt k hk
  rcases fw_new hk with rfl | rfl <;> exact ⟨by omega, by omega, by omega⟩
/-- as the law begins, where there are two -/
theorem st_two {w0 w w1 w2 w3 w4 w5 : World} {B C : Nat} (b0 : Below w0.heap.size w0 w) (hC : Ch w1 w.heap.size none B 0 [] 0 0 0) (b1 : Below w.heap.size w w1) (hR : Rf w2 w1.heap.size B (.slice none 0 0) [] 0 0 0) (b2 : Below w1.heap.size w1 w2)
    (hC' : Ch w3 w2.heap.size none C 0 [] 0 0 0) (b3 : Below w2.heap.size w2 w3) (hR' : Rf w4 w3.heap.size C (.slice none 0 0) [] 0 0 0) (b4 : Below w3.heap.size w3 w4) {a x b y : Nat} (ha : w.heap.size = a) (hx : w1.heap.size = x) (hb : w2.heap.size = b) (hy : w3.heap.size = y)
    (h5 : Below w4.heap.size w4 w5) (r1 : w5.heap[w4.heap.size]? = some (pRow b y)) (r2 : w5.heap[w4.heap.size + 1]? = some (pRow a x)) :
    St w0 w5 w4.heap.size (w4.heap.size + 1) b y a x 0 := by
  subst ha hx hb hy
  have z0 := b0.size
  have z1 := b1.size
  have z2 := b2.size
  have z3 := b3.size
  have z4 := b4.size
  have b24 : Below w2.heap.size w2 w4 := b3.trans (b4.mono z3)
  have P := (pr_new hC hR b2)
  have P4 := P.below b24
  have Q := pr_new hC' hR' b4
  refine ⟨(((b0.trans (b1.mono z0)).trans (b2.mono (by omega))).trans (b24.mono (by omega))).trans (h5.mono (by omega)), r1, r2, .inr ⟨_, _, _, _, _, _, _, _, _, _, _, _, _, _, ⟨Q.below h5, fun k hk => ?_⟩, ⟨P4.below h5, fun k hk => ?_⟩, fun k hk e => ?_⟩⟩
  · have h1 := Q.lt k hk
    rcases fw_new hk with rfl | rfl <;> exact ⟨by omega, by omega, by omega⟩
  · have h1 := P4.lt k hk
    rcases fw_new hk with rfl | rfl <;> exact ⟨by omega, by omega, by omega⟩
  · have h1 := P.lt k e
    rcases fw_new hk with rfl | rfl <;> omega
end Kc
end Go.Proofs.Ytkamjpjmdibfgaa
