import Derived.Test.YticjokhfjkebpaaGreatDoorPkO25
import Derived.RangeFuncNested
import Derived.RangeFuncBound
import Derived.RangeFuncCalls
import Derived.RangeFuncLeaves
import Derived.Shelf.Abstract
import Derived.Shelf.RegionOpen
import Derived.WalkKit
import Derived.OwnWalkIn
import Derived.TacticsInMore
import Derived.LoopNIn
import Derived.LoopIn
import Derived.Test.YticjokhfjkebpaaGreatDoorPkR5
namespace Go.Proofs.YticjokhfjkebpaaGreatDoor
open Go.RowKit

/-- blocks of F alone were touched; F' has what is new besides -/
structure Mvs (F : Nat → Prop) (w w' : World) (F' : Nat → Prop) : Prop where
  keep : Keep F w w'
  new : ∀ k, F' k → F k ∨ w.heap.size ≤ k
theorem Mvs.trans {F G H : Nat → Prop} {w w1 w2 : World} (h : Mvs F w w1 G) (k : Mvs G w1 w2 H) : Mvs F w w2 H := by
  refine ⟨h.keep.trans k.keep fun j hj hg => ?_, fun j hj => ?_⟩
  · rcases h.new j hg with e | e
    · exact e
    · omega
  · rcases k.new j hj with e | e
    · exact h.new j e
    · exact .inr (Nat.le_trans h.keep.size e)
theorem Mvs.refl (F : Nat → Prop) (w : World) : Mvs F w w F := ⟨Keep.refl F w, fun _ h => .inl h⟩
/-- what is said hangs on these blocks alone -/
structure Foot {α : Type} (J : (Nat → Prop) → List α → World → Prop) : Prop where
  keep : ∀ F pre W W' S, J F pre W → Keep S W W' → (∀ k, F k → ¬ S k) → J F pre W'
  lt : ∀ F pre W, J F pre W → ∀ k, F k → k < W.heap.size
theorem Keep.ofPut {S : Nat → Prop} (w : World) (l : Nat) (o : Obj) (hl : S l) : Keep S w (w.putObj l o) :=
  ⟨rfl, rfl, rfl, by rw [World.putObj_size]; exact Nat.le_refl _, fun k _ hs => World.putObj_heap_other (fun e => hs (e ▸ hl))⟩
/-- an iterator: it tells xs, one by one; C: blocks that it looks at and a round must not touch; Cw: those that it writes into -/
def IterC {α : Type} (P : Program) (gf : Nat) (lb : Array Value) (encs : α → Array Value) (xs : List α) (C Cw : Nat → Prop) (w : World) : Prop :=
  ∀ (n l : Nat) (J Jx : (Nat → Prop) → List α → World → Prop) (F : Nat → Prop) (W : World), Foot J → Foot Jx → Below w.heap.size w W → (∀ k, F k → ¬ C k) →
    (∀ (F : Nat → Prop) (pre : List α) (x : α) (rest : List α) (W1 : World), J F pre W1 → xs = pre ++ x :: rest → YieldAt Fence.wide (n - 1) P l (encs x) W1 fun e W' =>
      ∃ F', Mvs F W1 W' F' ∧ ((e = .returned (.bool true) ∧ J F' (pre ++ [x]) W') ∨ (e = .returned (.bool false) ∧ Jx F' (pre ++ [x]) W'))) →
    J F [] W →
    CallsIn Fence.wide n P gf (#[.func (.yield l) #[] #[]] ++ lb) W fun e W' => (∃ v, e = .returned v) ∧ ∃ F', Keep (fun k => F k ∨ Cw k) W W' ∧ (∀ k, F' k → F k ∨ W.heap.size ≤ k) ∧ (J F' xs W' ∨ ∃ pre, pre <+: xs ∧ Jx F' pre W')
/-- how a round's body may be left -/
def footPost {α : Type} (I : (Nat → Prop) → List α → World → Prop) (Ix : Code → (Nat → Prop) → List α → World → Prop) (F : Nat → Prop) (xs : List α) (W : World) : Exit → Act → World → Prop
  | .normal, _, W' => ∃ F', Mvs F W W' F' ∧ I F' xs W'
  | .ret, _, W' => ∃ F', Mvs F W W' F' ∧ Ix .ret F' xs W'
  | .exit id, _, W' => ∃ F', Mvs F W W' F' ∧ Ix (.exit id) F' xs W'
  | .goto t, _, W' => ∃ F', Mvs F W W' F' ∧ Ix (.goto t) F' xs W'
  | .panic _, _, _ => False
  | .outgrown, _, _ => False
/-- the world behind the loop, seen from ahead of it -/
structure Aft (F0 C : Nat → Prop) (w W : World) (F : Nat → Prop) (D : Nat) : Prop where
  keep : Keep (fun k => F0 k ∨ C k) w W
  new : ∀ k, F k → F0 k ∨ w.heap.size ≤ k
  mark : W.heap[D]? = some (.deferred (some []))
  hi : w.heap.size ≤ D
  out : ¬ F D
set_option maxHeartbeats 1000000 in
theorem range_foot {α : Type} {P : Program} {n : Nat} {g : Operand} {ps : Array Tmp} {assign body : Code} {Q : Exit → Act → World → Prop} {a : Act} {w : World}
    {gf : Nat} {lb : Array Value} (hg : a.eval g = .func (.func gf) #[] lb) (eg : ∀ args w, (callFunc gf args).run P w = .ok (.enter gf args) w)
    {encs : α → Array Value} {xs : List α} {C Cw : Nat → Prop} (hit : IterC P gf lb encs xs C Cw w) (hps : ∀ x, (encs x).size = ps.size)
    (I : (Nat → Prop) → List α → World → Prop) (Ix : Code → (Nat → Prop) → List α → World → Prop) (hI : Foot I) (hIx : ∀ c, Foot (Ix c))
    (F0 : Nat → Prop) (h0 : I F0 [] w) (hC : ∀ k, F0 k → ¬ C k) (hCl : ∀ k, C k → k < w.heap.size)
    (A : (Nat → Prop) → List α → α → Act → World → Prop) (hA : ∀ x a, Foot (fun F pre W => A F pre x a W))
    (hassign : ∀ (l : Nat) (F : Nat → Prop) (pre : List α) (x : α) (rest : List α) (W : World), I F pre W → xs = pre ++ x :: rest →
      assign.wpIn (Fence.wide.inRound l) (n - 1 - 1) P (Exit.then (fun a₁ W₁ => ∃ F₁, Mvs F W W₁ F₁ ∧ A F₁ pre x a₁ W₁) (fun _ _ _ => False)) { tmps := (ps.zip (encs x)).foldl (fun t (p, v) => t.setIfInBounds p v) a.tmps, defers := [] } W)
    (hbody : ∀ (l : Nat) (F : Nat → Prop) (pre : List α) (x : α) (rest : List α) (a₁ : Act) (W : World), A F pre x a₁ W → xs = pre ++ x :: rest →
      body.wpIn (Fence.wide.inRound l) (n - 1 - 1) P (footPost I Ix F (pre ++ [x]) W) a₁ W)
    (hdone : ∀ (D : Nat) (F : Nat → Prop) (W : World), I F xs W → Aft F0 Cw w W F D → Q .normal { a with defers := { target := .collected D, args := #[] } :: a.defers } W)
    (hstop : ∀ (D : Nat) (c : Code) (F : Nat → Prop) (pre : List α) (W : World), pre <+: xs → Ix c F pre W → Aft F0 Cw w W F D → c.wpIn Fence.wide n P Q { a with defers := { target := .collected D, args := #[] } :: a.defers } W) :
    (Code.rangeFunc g ps assign body).wpIn Fence.wide n P Q a w := by
  refine wpIn_rangeFunc ?_
  intro fn hfn
  obtain ⟨rec, hrec⟩ : ∃ rec : LoopState → Option Code → Loop, rec = fun st pe => { state := st, pending := pe, fn, tmps := a.tmps, params := ps, assign, body, defers := w.heap.size } := ⟨_, rfl⟩
  obtain ⟨W1, hW1⟩ : ∃ W1, (w.alloc (.deferred (some []))).alloc (.loop (rec .ready none)) = W1 := ⟨_, rfl⟩
  have hL1 : W1.heap[w.heap.size + 1]? = some (.loop (rec .ready none)) := by
    rw [← hW1]; have := World.alloc_heap_new (w.alloc (.deferred (some []))) (.loop (rec .ready none)); rwa [World.size_alloc] at this
  have hK1 : W1.heap[w.heap.size]? = some (.deferred (some [])) := by
    rw [← hW1]; exact (Below.heap_alloc _ _ _ (by simp)).trans (World.alloc_heap_new w _)
  have hb1 : Below w.heap.size w W1 := by
    rw [← hW1]; exact ((Below.refl _ w).alloc (Nat.le_refl _) _).alloc (by simp) _
  have hI1 : I F0 [] W1 := hI.keep _ _ _ _ (fun _ => False) h0 (Keep.ofBelow hb1) (fun _ _ e => e)
  have hsz1 : W1.heap.size = w.heap.size + 2 := by rw [← hW1]; simp
  refine ⟨w.heap.size + 1, [{ target := .collected w.heap.size, args := #[] }], W1, { target := .fn (.func gf) lb, args := #[.func (.yield (w.heap.size + 1)) #[] #[]] }, W1, gf,
    #[.func (.yield (w.heap.size + 1)) #[] #[]] ++ lb, W1, ?_, ?_, ?_, ?_, (fun h => by cases h), ?_⟩
  · rw [← hW1, hrec]; exact run_enterLoop_outer _ _ _ _ _
  · simp only [resolve, hg]
    simp [go_sem]
  · intro f' _; trivial
  · simp [invoke, go_sem, eg]
  · obtain ⟨L, hL⟩ : ∃ L, L = w.heap.size + 1 := ⟨_, rfl⟩
    obtain ⟨D, hD⟩ : ∃ D, D = w.heap.size := ⟨_, rfl⟩
    rw [← hL] at hL1
    rw [← hD] at hK1
    have hF0 : ∀ k, F0 k → k < w.heap.size := hI.lt _ _ _ h0
    refine (hit (n - 1) (w.heap.size + 1)
      (fun F pre W => F L ∧ F D ∧ W.heap[L]? = some (.loop (rec .ready none)) ∧ W.heap[D]? = some (.deferred (some [])) ∧ ∃ F1 : Nat → Prop, (∀ k, F1 k → F k) ∧ ¬ F1 L ∧ ¬ F1 D ∧ (∀ k, F k → F1 k ∨ k = L ∨ k = D) ∧ I F1 pre W)
      (fun F pre W => F L ∧ F D ∧ ∃ c, W.heap[L]? = some (.loop (rec .done (some c))) ∧ W.heap[D]? = some (.deferred (some [])) ∧ ∃ F1 : Nat → Prop, (∀ k, F1 k → F k) ∧ ¬ F1 L ∧ ¬ F1 D ∧ (∀ k, F k → F1 k ∨ k = L ∨ k = D) ∧ Ix c F1 pre W)
      (fun k => F0 k ∨ k = L ∨ k = D) W1 ?_ ?_ hb1 ?_ ?_ ?_).mono ?_
    · refine ⟨?_, ?_⟩
      · rintro F pre W W' S ⟨hl, hd, h1, h2, F1, h3, h4, h5, h6, h7⟩ hk hs
        exact ⟨hl, hd, (hk.block L (Array.getElem?_eq_some_iff.1 h1).1 (hs L hl)).trans h1, (hk.block D (Array.getElem?_eq_some_iff.1 h2).1 (hs D hd)).trans h2, F1, h3, h4, h5, h6, hI.keep _ _ _ _ _ h7 hk fun k hk' => hs k (h3 k hk')⟩
      · rintro F pre W ⟨hl, hd, h1, h2, F1, h3, h4, h5, h6, h7⟩ k hk
        rcases h6 k hk with e | rfl | rfl
        · exact hI.lt _ _ _ h7 k e
        · exact (Array.getElem?_eq_some_iff.1 h1).1
        · exact (Array.getElem?_eq_some_iff.1 h2).1
    · refine ⟨?_, ?_⟩
      · rintro F pre W W' S ⟨hl, hd, c, h1, h2, F1, h3, h4, h5, h6, h7⟩ hk hs
        exact ⟨hl, hd, c, (hk.block L (Array.getElem?_eq_some_iff.1 h1).1 (hs L hl)).trans h1, (hk.block D (Array.getElem?_eq_some_iff.1 h2).1 (hs D hd)).trans h2, F1, h3, h4, h5, h6, (hIx c).keep _ _ _ _ _ h7 hk fun k hk' => hs k (h3 k hk')⟩
      · rintro F pre W ⟨hl, hd, c, h1, h2, F1, h3, h4, h5, h6, h7⟩ k hk
        rcases h6 k hk with e | rfl | rfl
        · exact (hIx c).lt _ _ _ h7 k e
        · exact (Array.getElem?_eq_some_iff.1 h1).1
        · exact (Array.getElem?_eq_some_iff.1 h2).1
    · rintro k (e | rfl | rfl) hc
      · exact hC k e hc
      · have := hCl _ hc; omega
      · have := hCl _ hc; omega
    · -- one round
      rintro F pre x rest W ⟨hl, hd, h1, h2, F1, h3, h4, h5, h6, h7⟩ hx
      have hLlt : L < W.heap.size := (Array.getElem?_eq_some_iff.1 h1).1
      have hDlt : D < W.heap.size := (Array.getElem?_eq_some_iff.1 h2).1
      have hy := run_yield (P := P) (args := encs x) h1 (by rw [hrec]; exact hps x)
      rw [hrec] at hy
      refine ⟨fn, _, assign, body, by rw [← hL]; exact hy, roundIn_of_wpIn hfn (wpIn_mono (hassign _ F1 pre x rest W h7 hx) ?_)⟩
      rintro e a₁ W₁ hp
      cases e with
      | normal =>
        obtain ⟨F2, hm1, hA1⟩ := hp
        have nL2 : ¬ F2 L := fun e => by rcases hm1.new L e with e | e; exact h4 e; omega
        have nD2 : ¬ F2 D := fun e => by rcases hm1.new D e with e | e; exact h5 e; omega
        have g1 : W₁.heap[L]? = some (.loop (rec .ready none)) := (hm1.keep.block L hLlt h4).trans h1
        have g2 : W₁.heap[D]? = some (.deferred (some [])) := (hm1.keep.block D hDlt h5).trans h2
        have hLlt1 : L < W₁.heap.size := (Array.getElem?_eq_some_iff.1 g1).1
        have hDlt1 : D < W₁.heap.size := (Array.getElem?_eq_some_iff.1 g2).1
        refine ⟨W₁.putObj L (.loop { rec .ready none with state := .busy }), by rw [← hL]; exact run_beginRound g1 (by rw [hrec]), ?_⟩
        have q1 : (W₁.putObj L (.loop { rec .ready none with state := .busy })).heap[L]? = some (.loop { rec .ready none with state := .busy }) := World.putObj_heap_same hLlt1
        have q2 : (W₁.putObj L (.loop { rec .ready none with state := .busy })).heap[D]? = some (.deferred (some [])) := (World.putObj_heap_other (by omega)).trans g2
        have kp1 : Keep (fun k => k = L) W₁ (W₁.putObj L (.loop { rec .ready none with state := .busy })) := Keep.ofPut _ _ _ rfl
        have hA2 := (hA x a₁).keep _ _ _ _ _ hA1 kp1 (fun k hk e => nL2 (e ▸ hk))
        generalize hW2 : W₁.putObj L (.loop { rec .ready none with state := .busy }) = W₂ at *
        refine wpIn_mono (hbody _ F2 pre x rest a₁ W₂ hA2 hx) ?_
        have fin : ∀ (jump : Option Code) (W3 : World) (F3 : Nat → Prop), Mvs F2 W₂ W3 F3 →
            (Instr.endRound (w.heap.size + 1) jump).run P W3 = .ok (.bool jump.isNone) (W3.putObj L (.loop (rec (if jump.isNone then .ready else .done) jump))) ∧
            (W3.putObj L (.loop (rec (if jump.isNone then .ready else .done) jump))).heap[L]? = some (.loop (rec (if jump.isNone then .ready else .done) jump)) ∧
            (W3.putObj L (.loop (rec (if jump.isNone then .ready else .done) jump))).heap[D]? = some (.deferred (some [])) ∧ ¬ F3 L ∧ ¬ F3 D ∧
            Mvs F W (W3.putObj L (.loop (rec (if jump.isNone then .ready else .done) jump))) (fun k => F3 k ∨ k = L ∨ k = D) := fun jump W3 F3 hm => by
          have r1 := (hm.keep.block L (Array.getElem?_eq_some_iff.1 q1).1 nL2).trans q1
          have r2 := (hm.keep.block D (Array.getElem?_eq_some_iff.1 q2).1 nD2).trans q2
          have := run_endRound (P := P) jump r1
          rw [hrec] at this ⊢
          have nL3 : ¬ F3 L := fun e => by rcases hm.new L e with e | e; exact nL2 e; have := (Array.getElem?_eq_some_iff.1 q1).1; omega
          have nD3 : ¬ F3 D := fun e => by rcases hm.new D e with e | e; exact nD2 e; have := (Array.getElem?_eq_some_iff.1 q2).1; omega
          refine ⟨by rw [← hL]; exact this, World.putObj_heap_same (Array.getElem?_eq_some_iff.1 r1).1, (World.putObj_heap_other (by omega)).trans r2, nL3, nD3, ?_, ?_⟩
          · have e1 : Keep F W W₁ := hm1.keep.mono fun j _ hj => h3 j hj
            have e2 : Keep F W W₂ := e1.trans kp1 fun j _ hj => by rw [hj]; exact hl
            have e3 : Keep F W W3 := e2.trans hm.keep fun j hj hg => by
              rcases hm1.new j hg with e | e
              · exact h3 j e
              · omega
            exact e3.trans (Keep.ofPut (S := fun k => k = L) _ _ _ rfl) fun j _ hj => by rw [hj]; exact hl
          · rintro k (e | rfl | rfl)
            · have hs2 : W₁.heap.size ≤ W₂.heap.size := kp1.size
              have hs1 := hm1.keep.size
              rcases hm.new k e with e | e
              · rcases hm1.new k e with e | e
                · exact .inl (h3 k e)
                · exact .inr e
              · exact .inr (by omega)
            · exact .inl hl
            · exact .inl hd
        rintro e a3 W3 hp
        cases e with
        | normal =>
          obtain ⟨F3, hm, hi3⟩ := hp
          obtain ⟨hr, t1, t2, t3, t4, t5⟩ := fin none W3 F3 hm
          exact ⟨_, _, hr, _, t5, .inl ⟨rfl, .inr (.inl rfl), .inr (.inr rfl), t1, t2, F3, fun k hk => .inl hk, t3, t4, fun k hk => hk, hI.keep _ _ _ _ _ hi3 (Keep.ofPut (S := fun k => k = L) _ _ _ rfl) (fun k hk e => t3 (e ▸ hk))⟩⟩
        | ret =>
          obtain ⟨F3, hm, hi3⟩ := hp
          obtain ⟨hr, t1, t2, t3, t4, t5⟩ := fin (some .ret) W3 F3 hm
          exact ⟨_, _, hr, _, t5, .inr ⟨rfl, .inr (.inl rfl), .inr (.inr rfl), _, t1, t2, F3, fun k hk => .inl hk, t3, t4, fun k hk => hk, (hIx _).keep _ _ _ _ _ hi3 (Keep.ofPut (S := fun k => k = L) _ _ _ rfl) (fun k hk e => t3 (e ▸ hk))⟩⟩
        | exit id =>
          obtain ⟨F3, hm, hi3⟩ := hp
          obtain ⟨hr, t1, t2, t3, t4, t5⟩ := fin (some (.exit id)) W3 F3 hm
          exact ⟨_, _, hr, _, t5, .inr ⟨rfl, .inr (.inl rfl), .inr (.inr rfl), _, t1, t2, F3, fun k hk => .inl hk, t3, t4, fun k hk => hk, (hIx _).keep _ _ _ _ _ hi3 (Keep.ofPut (S := fun k => k = L) _ _ _ rfl) (fun k hk e => t3 (e ▸ hk))⟩⟩
        | goto t =>
          obtain ⟨F3, hm, hi3⟩ := hp
          obtain ⟨hr, t1, t2, t3, t4, t5⟩ := fin (some (.goto t)) W3 F3 hm
          exact ⟨_, _, hr, _, t5, .inr ⟨rfl, .inr (.inl rfl), .inr (.inr rfl), _, t1, t2, F3, fun k hk => .inl hk, t3, t4, fun k hk => hk, (hIx _).keep _ _ _ _ _ hi3 (Keep.ofPut (S := fun k => k = L) _ _ _ rfl) (fun k hk e => t3 (e ▸ hk))⟩⟩
        | panic ch => exact hp.elim
        | outgrown => exact hp.elim
      | exit id => exact hp.elim
      | goto t => exact hp.elim
      | ret => exact hp.elim
      | panic ch => exact hp.elim
      | outgrown => exact hp.elim
    · exact ⟨.inr (.inl rfl), .inr (.inr rfl), hL1, hK1, F0, fun k hk => .inl hk, fun e => by have := hF0 _ e; omega, fun e => by have := hF0 _ e; omega, fun k hk => hk, hI1⟩
    · -- behind the iterator
      rintro e W2 ⟨⟨v, rfl⟩, F', hk, hn, hj⟩
      have aft : ∀ (o : Obj) (F1 : Nat → Prop), (∀ k, F1 k → F' k) → ¬ F1 L → ¬ F1 D → W2.heap[D]? = some (.deferred (some [])) → Aft F0 Cw w (W2.putObj L o) F1 D := fun o F1 h3 h4 h5 h2 => by
        refine ⟨?_, fun k hk' => ?_, (World.putObj_heap_other (by omega)).trans h2, by omega, h5⟩
        · have e1 : Keep (fun k => F0 k ∨ Cw k) w W1 := Keep.ofBelow hb1
          have e2 : Keep (fun k => F0 k ∨ Cw k) w W2 := e1.trans hk fun j hj hg => by
            rcases hg with (e | rfl | rfl) | e
            · exact .inl e
            · omega
            · omega
            · exact .inr e
          exact e2.trans (Keep.ofPut (S := fun k => k = L) _ _ _ rfl) fun j hj he => by rw [he] at hj; omega
        · rcases hn k (h3 k hk') with (e | rfl | rfl) | e
          · exact .inl e
          · exact absurd hk' h4
          · exact absurd hk' h5
          · exact .inr (by omega)
      rcases hj with ⟨hl, hd, h1, h2, F1, h3, h4, h5, h6, h7⟩ | ⟨pre, hpre, hl, hd, c, h1, h2, F1, h3, h4, h5, h6, h7⟩
      · refine ⟨none, W2.putObj L (.loop { rec .ready none with state := .exhausted }), by rw [← hL]; have := run_endLoop (P := P) h1 (by rw [hrec]; simp); rw [hrec] at this ⊢; exact this, ?_⟩
        rw [← hD]
        exact hdone D F1 _ (hI.keep _ _ _ _ _ h7 (Keep.ofPut (S := fun k => k = L) _ _ _ rfl) (fun k hk e => h4 (e ▸ hk))) (aft _ F1 h3 h4 h5 h2)
      · refine ⟨some c, W2.putObj L (.loop { rec .done (some c) with state := .exhausted }), by rw [← hL]; have := run_endLoop (P := P) h1 (by rw [hrec]; simp); rw [hrec] at this ⊢; exact this, ?_⟩
        rw [← hD]
        exact hstop D c F1 pre _ hpre ((hIx c).keep _ _ _ _ _ h7 (Keep.ofPut (S := fun k => k = L) _ _ _ rfl) (fun k hk e => h4 (e ▸ hk))) (aft _ F1 h3 h4 h5 h2)
end Go.Proofs.YticjokhfjkebpaaGreatDoor

/- THE PLAIN MATHEMATICS OF LAYER 4: going up by halves, going down by the recursion; nothing of the program. -/
namespace Go.Proofs.YticjokhfjkebpaaGreatDoor.Tree
/-- going up from a place of a level whose last place is l: does the next hash stand left? -/
def U (p l : Nat) : List Bool :=
  if h : l = 0 then [] else if p = l ∧ p % 2 = 0 then U (p / 2) (l / 2) else (p % 2 == 1) :: U (p / 2) (l / 2)
termination_by l
decreasing_by all_goals omega
theorem U_zero (p : Nat) : U p 0 = [] := by rw [U, dif_pos rfl]
theorem U_skip {p : Nat} (h : p ≠ 0) (h2 : p % 2 = 0) : U p p = U (p / 2) (p / 2) := by rw [U, dif_neg h, if_pos ⟨rfl, h2⟩]
theorem U_step {p l : Nat} (h : l ≠ 0) (h2 : ¬ (p = l ∧ p % 2 = 0)) : U p l = (p % 2 == 1) :: U (p / 2) (l / 2) := by rw [U, dif_neg h, if_neg h2]
/-- going down: the sides, from below -/
def D (n m : Nat) : List Bool :=
  if _h : n < 2 then [] else if m < sp n then D (sp n) m ++ [false] else D (n - sp n) (m - sp n) ++ [true]
termination_by n
decreasing_by
  · exact sp_lt (by omega)
  · have := sp_pos (n := n) (by omega); omega
theorem D_one {n : Nat} (m : Nat) (h : n < 2) : D n m = [] := by rw [D, dif_pos h]
theorem D_left {n m : Nat} (h : 2 ≤ n) (hm : m < sp n) : D n m = D (sp n) m ++ [false] := by rw [D, dif_neg (by omega), if_pos hm]
theorem D_right {n m : Nat} (h : 2 ≤ n) (hm : ¬ m < sp n) : D n m = D (n - sp n) (m - sp n) ++ [true] := by rw [D, dif_neg (by omega), if_neg hm]
theorem U_left : ∀ (j m l : Nat), m < 2 ^ j → 2 ^ j ≤ l → l < 2 ^ (j + 1) → U m l = U m (2 ^ j - 1) ++ [false]
  | 0, m, l, h1, h2, h3 => by
    obtain rfl : m = 0 := by simp at h1; omega
    obtain rfl : l = 1 := by simp at h2 h3; omega
    rw [U_step (by omega) (by omega)]; simp [U_zero]
  | j + 1, m, l, h1, h2, h3 => by
    have e1 : 2 ^ (j + 1) = 2 * 2 ^ j := by rw [Nat.pow_succ]; omega
    have e2 : 2 ^ (j + 1 + 1) = 2 * 2 ^ (j + 1) := by rw [Nat.pow_succ]; omega
    have h0 : 0 < 2 ^ j := Nat.two_pow_pos _
    have ih := U_left j (m / 2) (l / 2) (by omega) (by omega) (by omega)
    rw [U_step (l := l) (by omega) (by omega), U_step (l := 2 ^ (j + 1) - 1) (by omega) (by omega), ih, show (2 ^ (j + 1) - 1) / 2 = 2 ^ j - 1 from by omega]
    rfl
theorem U_right : ∀ (j m l : Nat), m ≤ l → l < 2 ^ j → U (2 ^ j + m) (2 ^ j + l) = U m l ++ [true]
  | 0, m, l, h1, h2 => by
    obtain rfl : l = 0 := by simp at h2; omega
    obtain rfl : m = 0 := by omega
    show U 1 1 = U 0 0 ++ [true]
    rw [U_step (by omega) (by omega)]; simp [U_zero]
  | j + 1, m, l, h1, h2 => by
    have e1 : 2 ^ (j + 1) = 2 * 2 ^ j := by rw [Nat.pow_succ]; omega
    have h0 : 0 < 2 ^ j := Nat.two_pow_pos _
    have ih := U_right j (m / 2) (l / 2) (by omega) (by omega)
    have a1 : (2 ^ (j + 1) + m) / 2 = 2 ^ j + m / 2 := by omega
    have a2 : (2 ^ (j + 1) + l) / 2 = 2 ^ j + l / 2 := by omega
    by_cases hs : m = l ∧ m % 2 = 0
    · obtain ⟨rfl, hs⟩ := hs
      rw [U_skip (by omega) (by omega), a1, ih]
      by_cases hm : m = 0
      · subst hm; rfl
      · rw [← U_skip hm hs]
    · have hl : l ≠ 0 := by omega
      rw [U_step (by omega) (by omega), a1, a2, ih, U_step hl hs, show (2 ^ (j + 1) + m) % 2 = m % 2 from by omega]
      rfl
theorem D_U : ∀ (f n m : Nat), n ≤ f → m < n → D n m = U m (n - 1)
  | 0, n, m, hf, h => by omega
  | f + 1, n, m, hf, h => by
    by_cases h2 : n < 2
    · obtain rfl : n = 1 := by omega
      rw [D_one _ h2]; exact (U_zero m).symm
    · have a := sp_lt (n := n) (by omega)
      have b := sp_pos (n := n) (by omega)
      have c := sp_ge (n := n) (by omega)
      have d := sp_eq (n := n) (by omega)
      generalize (n - 1).log2 = j at d
      by_cases hm : m < sp n
      · rw [D_left (by omega) hm, D_U f _ m (by omega) hm, d]
        exact (U_left j m (n - 1) (by omega) (by omega) (by rw [Nat.pow_succ]; omega)).symm
      · rw [D_right (by omega) hm, D_U f _ (m - sp n) (by omega) (by omega)]
        have := U_right j (m - 2 ^ j) (n - 1 - 2 ^ j) (by omega) (by omega)
        rw [d, show n - 2 ^ j - 1 = n - 1 - 2 ^ j from by omega, ← this, show 2 ^ j + (m - 2 ^ j) = m from by omega, show 2 ^ j + (n - 1 - 2 ^ j) = n - 1 from by omega]
theorem U_len : ∀ (j p l : Nat), l < 2 ^ j → (U p l).length ≤ j
  | 0, p, l, h => by
    obtain rfl : l = 0 := by simp at h; omega
    rw [U_zero]; simp
  | j + 1, p, l, h => by
    by_cases hl : l = 0
    · subst hl; rw [U_zero]; simp
    · have e1 : 2 ^ (j + 1) = 2 * 2 ^ j := by rw [Nat.pow_succ]; omega
      have ih := U_len j (p / 2) (l / 2) (by omega)
      by_cases hs : p = l ∧ p % 2 = 0
      · obtain ⟨rfl, hs⟩ := hs
        rw [U_skip hl hs]; omega
      · rw [U_step hl hs, List.length_cons]; omega
/-- the walk from below -/
def upd (r : T) : List Bool → List T → T
  | d :: ds, h :: hs => upd (if d then nd h r else nd r h) ds hs
  | _, _ => r
theorem upd_snoc : ∀ (r : T) (ds : List Bool) (hs : List T) (d : Bool) (h : T), ds.length = hs.length → upd r (ds ++ [d]) (hs ++ [h]) = if d then nd h (upd r ds hs) else nd (upd r ds hs) h
  | r, [], [], d, h, _ => rfl
  | r, x :: ds, y :: hs, d, h, e => by
    show upd _ (ds ++ [d]) (hs ++ [h]) = _
    rw [upd_snoc _ ds hs d h (by simpa using e)]; rfl
/-- S(m, n): the sides, from below -/
def PD (m n : Nat) : List Bool :=
  if _h : n < 2 ∨ m = n then [] else if m ≤ sp n then PD m (sp n) ++ [false] else PD (m - sp n) (n - sp n) ++ [true]
termination_by n
decreasing_by
  · exact sp_lt (by omega)
  · have := sp_pos (n := n) (by omega); omega
theorem PD_same (n : Nat) : PD n n = [] := by rw [PD, dif_pos (Or.inr rfl)]
theorem PD_left {m n : Nat} (h1 : 1 ≤ m) (h2 : m < n) (hm : m ≤ sp n) : PD m n = PD m (sp n) ++ [false] := by rw [PD, dif_neg (by omega), if_pos hm]
theorem PD_right {m n : Nat} (h1 : 1 ≤ m) (h2 : m < n) (hm : ¬ m ≤ sp n) : PD m n = PD (m - sp n) (n - sp n) ++ [true] := by rw [PD, dif_neg (by omega), if_neg hm]
/-- is a hash taken ahead? -/
def fl (m n : Nat) (whole : Bool) : Bool := !whole || (PD m n).any id
theorem fl_false (m n : Nat) : fl m n false = true := rfl
theorem fl_same (n : Nat) (whole : Bool) : fl n n whole = !whole := by simp [fl, PD_same]
theorem fl_left {m n : Nat} (h1 : 1 ≤ m) (h2 : m < n) (hm : m ≤ sp n) (whole : Bool) : fl m n whole = fl m (sp n) whole := by simp [fl, PD_left h1 h2 hm]
theorem fl_right {m n : Nat} (h1 : 1 ≤ m) (h2 : m < n) (hm : ¬ m ≤ sp n) (whole : Bool) : fl m n whole = true := by simp [fl, PD_right h1 h2 hm]
def pl (m n : Nat) (whole : Bool) : Nat := (PD m n).length + if fl m n whole then 1 else 0
theorem pl_left {m n : Nat} (h1 : 1 ≤ m) (h2 : m < n) (hm : m ≤ sp n) (whole : Bool) : pl m n whole = 1 + pl m (sp n) whole := by
  unfold pl; rw [fl_left h1 h2 hm, PD_left h1 h2 hm, List.length_append, List.length_singleton]; omega
theorem pl_right {m n : Nat} (h1 : 1 ≤ m) (h2 : m < n) (hm : ¬ m ≤ sp n) (whole : Bool) : pl m n whole = 1 + pl (m - sp n) (n - sp n) false := by
  unfold pl; rw [fl_right h1 h2 hm, fl_false, PD_right h1 h2 hm, List.length_append, List.length_singleton]; omega
theorem pl_same (n : Nat) (whole : Bool) : pl n n whole = if whole then 0 else 1 := by unfold pl; rw [fl_same, PD_same]; cases whole <;> rfl
/-- the odd places are left behind -/
def St (p l : Nat) : Nat × Nat := if h : p % 2 = 1 then St (p / 2) (l / 2) else (p, l)
termination_by p
decreasing_by omega
theorem St_odd {p : Nat} (l : Nat) (h : p % 2 = 1) : St p l = St (p / 2) (l / 2) := by rw [St, dif_pos h]
theorem St_even {p : Nat} (l : Nat) (h : ¬ p % 2 = 1) : St p l = (p, l) := by rw [St, dif_neg h]
def SU (p l : Nat) : List Bool := U (St p l).1 (St p l).2
theorem SU_odd {p : Nat} (l : Nat) (h : p % 2 = 1) : SU p l = SU (p / 2) (l / 2) := by unfold SU; rw [St_odd l h]
theorem SU_even {p : Nat} (l : Nat) (h : ¬ p % 2 = 1) : SU p l = U p l := by unfold SU; rw [St_even l h]
theorem SU_left : ∀ (j m l : Nat), m < 2 ^ j → 2 ^ j ≤ l → l < 2 ^ (j + 1) → SU m l = SU m (2 ^ j - 1) ++ [false]
  | 0, m, l, h1, h2, h3 => by
    obtain rfl : m = 0 := by simp at h1; omega
    rw [SU_even _ (by omega), SU_even _ (by omega)]
    exact U_left 0 0 l h1 h2 h3
  | j + 1, m, l, h1, h2, h3 => by
    have e1 : 2 ^ (j + 1) = 2 * 2 ^ j := by rw [Nat.pow_succ]; omega
    have e2 : 2 ^ (j + 1 + 1) = 2 * 2 ^ (j + 1) := by rw [Nat.pow_succ]; omega
    have h0 : 0 < 2 ^ j := Nat.two_pow_pos _
    by_cases ho : m % 2 = 1
    · rw [SU_odd _ ho, SU_odd _ ho, SU_left j (m / 2) (l / 2) (by omega) (by omega) (by omega), show (2 ^ (j + 1) - 1) / 2 = 2 ^ j - 1 from by omega]
    · rw [SU_even _ ho, SU_even _ ho]
      exact U_left (j + 1) m l h1 h2 h3
theorem SU_right : ∀ (j m l : Nat), m < l → l < 2 ^ j → SU (2 ^ j + m) (2 ^ j + l) = SU m l ++ [true]
  | 0, m, l, h1, h2 => by have : (2 : Nat) ^ 0 = 1 := rfl; omega
  | j + 1, m, l, h1, h2 => by
    have e1 : 2 ^ (j + 1) = 2 * 2 ^ j := by rw [Nat.pow_succ]; omega
    have h0 : 0 < 2 ^ j := Nat.two_pow_pos _
    by_cases ho : m % 2 = 1
    · rw [SU_odd _ (by omega), SU_odd _ ho, show (2 ^ (j + 1) + m) / 2 = 2 ^ j + m / 2 from by omega, show (2 ^ (j + 1) + l) / 2 = 2 ^ j + l / 2 from by omega, SU_right j (m / 2) (l / 2) (by omega) (by omega)]
    · rw [SU_even _ (by omega), SU_even _ ho]
      exact U_right (j + 1) m l (by omega) h2
theorem St_full : ∀ (j : Nat), St (2 ^ j - 1) (2 ^ j - 1) = (0, 0)
  | 0 => by rw [St_even _ (by simp)]
  | j + 1 => by
    have e1 : 2 ^ (j + 1) = 2 * 2 ^ j := by rw [Nat.pow_succ]; omega
    have h0 : 0 < 2 ^ j := Nat.two_pow_pos _
    rw [St_odd _ (by omega), show (2 ^ (j + 1) - 1) / 2 = 2 ^ j - 1 from by omega, St_full j]
theorem St_one : ∀ (p l l' : Nat), (St p l).1 = (St p l').1 := by
  intro p
  induction p using Nat.strongRecOn with
  | ind p ih =>
    intro l l'
    by_cases h : p % 2 = 1
    · rw [St_odd _ h, St_odd _ h]; exact ih _ (by omega) _ _
    · rw [St_even _ h, St_even _ h]
theorem St_right : ∀ (j m l : Nat), m + 1 < 2 ^ j → (St (2 ^ j + m) l).1 ≠ 0
  | 0, m, l, h => by simp at h
  | j + 1, m, l, h => by
    have e1 : 2 ^ (j + 1) = 2 * 2 ^ j := by rw [Nat.pow_succ]; omega
    have h0 : 0 < 2 ^ j := Nat.two_pow_pos _
    by_cases ho : m % 2 = 1
    · rw [St_odd _ (by omega), show (2 ^ (j + 1) + m) / 2 = 2 ^ j + m / 2 from by omega]
      exact St_right j _ _ (by omega)
    · rw [St_even _ (by omega)]
      show 2 ^ (j + 1) + m ≠ 0
      omega
theorem PD_SU : ∀ (f m n : Nat), n ≤ f → 1 ≤ m → m < n → PD m n = SU (m - 1) (n - 1) ∧ (PD m n).any id = decide ((St (m - 1) (n - 1)).1 ≠ 0)
  | 0, m, n, hf, h1, h2 => by omega
  | f + 1, m, n, hf, h1, h2 => by
    have a := sp_lt (n := n) (by omega)
    have b := sp_pos (n := n) (by omega)
    have c := sp_ge (n := n) (by omega)
    have d := sp_eq (n := n) (by omega)
    generalize (n - 1).log2 = j at d
    by_cases hm : m ≤ sp n
    · have hl := SU_left j (m - 1) (n - 1) (by omega) (by omega) (by rw [Nat.pow_succ]; omega)
      rw [PD_left h1 h2 hm, List.any_append]
      by_cases hk : m = sp n
      · have hz := St_full j
        have e : m - 1 = 2 ^ j - 1 := by omega
        have hs : SU (2 ^ j - 1) (2 ^ j - 1) = [] := by unfold SU; rw [hz, U_zero]
        rw [e] at hl ⊢
        rw [hk, PD_same, hl, hs, St_one _ _ (2 ^ j - 1), hz]
        exact ⟨rfl, rfl⟩
      · obtain ⟨i1, i2⟩ := PD_SU f m (sp n) (by omega) h1 (by omega)
        rw [i2, St_one _ (sp n - 1) (n - 1)]
        rw [i1, hl, d]
        exact ⟨rfl, by simp⟩
    · obtain ⟨i1, i2⟩ := PD_SU f (m - sp n) (n - sp n) (by omega) (by omega) (by omega)
      have hr := SU_right j (m - 1 - 2 ^ j) (n - 1 - 2 ^ j) (by omega) (by omega)
      have hz := St_right j (m - 1 - 2 ^ j) (n - 1) (by omega)
      rw [show 2 ^ j + (m - 1 - 2 ^ j) = m - 1 from by omega] at hr hz
      rw [show 2 ^ j + (n - 1 - 2 ^ j) = n - 1 from by omega] at hr
      rw [PD_right h1 h2 hm, i1, hr, d, show m - 2 ^ j - 1 = m - 1 - 2 ^ j from by omega, show n - 2 ^ j - 1 = n - 1 - 2 ^ j from by omega]
      refine ⟨rfl, ?_⟩
      rw [List.any_append]
      simp [hz]
theorem St_le : ∀ (p l : Nat), (St p l).1 ≤ p ∧ (St p l).2 ≤ l := by
  intro p
  induction p using Nat.strongRecOn with
  | ind p ih =>
    intro l
    by_cases h : p % 2 = 1
    · rw [St_odd _ h]; have := ih (p / 2) (by omega) (l / 2); omega
    · rw [St_even _ h]; simp
theorem St_lt : ∀ (p l : Nat), p < l → (St p l).1 < (St p l).2 := by
  intro p
  induction p using Nat.strongRecOn with
  | ind p ih =>
    intro l hl
    by_cases h : p % 2 = 1
    · rw [St_odd _ h]; exact ih (p / 2) (by omega) (l / 2) (by omega)
    · rw [St_even _ h]; exact hl
/-- both roots, from below -/
def upd2 (a b : T) : List Bool → List T → T × T
  | true :: ds, h :: hs => upd2 (nd h a) (nd h b) ds hs
  | false :: ds, h :: hs => upd2 a (nd b h) ds hs
  | _, _ => (a, b)
theorem upd2_snoc : ∀ (a b : T) (ds : List Bool) (hs : List T) (d : Bool) (h : T), ds.length = hs.length → upd2 a b (ds ++ [d]) (hs ++ [h]) = if d then (nd h (upd2 a b ds hs).1, nd h (upd2 a b ds hs).2) else ((upd2 a b ds hs).1, nd (upd2 a b ds hs).2 h)
  | a, b, [], [], d, h, _ => by cases d <;> rfl
  | a, b, true :: ds, y :: hs, d, h, e => by
    show upd2 _ _ (ds ++ [d]) (hs ++ [h]) = _
    rw [upd2_snoc _ _ ds hs d h (by simpa using e)]; rfl
  | a, b, false :: ds, y :: hs, d, h, e => by
    show upd2 _ _ (ds ++ [d]) (hs ++ [h]) = _
    rw [upd2_snoc _ _ ds hs d h (by simpa using e)]; rfl
def bth (m n : Nat) (whole : Bool) (old : T) (P : List T) : T × T :=
  if fl m n whole then upd2 (P.headD []) (P.headD []) (PD m n) P.tail else upd2 old old (PD m n) P
theorem bth_same (n : Nat) (whole : Bool) (old : T) (P : List T) : bth n n whole old P = if whole then (old, old) else (P.headD [], P.headD []) := by
  unfold bth; rw [fl_same, PD_same]; cases whole <;> rfl
theorem bth_left {m n : Nat} (h1 : 1 ≤ m) (h2 : m < n) (hm : m ≤ sp n) (whole : Bool) (old : T) (P : List T) (h : T) (hl : P.length = pl m (sp n) whole) :
    bth m n whole old (P ++ [h]) = ((bth m (sp n) whole old P).1, nd (bth m (sp n) whole old P).2 h) := by
  unfold bth
  unfold pl at hl
  rw [fl_left h1 h2 hm, PD_left h1 h2 hm]
  by_cases hf : fl m (sp n) whole = true
  · rw [if_pos hf] at hl
    rw [if_pos hf, if_pos hf]
    match P, hl with
    | p :: P, hl =>
      show upd2 p p _ (P ++ [h]) = _
      rw [upd2_snoc _ _ _ _ _ _ (by simp at hl; omega)]; rfl
  · rw [if_neg hf] at hl
    rw [if_neg hf, if_neg hf, upd2_snoc _ _ _ _ _ _ (by omega)]; rfl
theorem bth_right {m n : Nat} (h1 : 1 ≤ m) (h2 : m < n) (hm : ¬ m ≤ sp n) (whole : Bool) (old : T) (P : List T) (h : T) (hl : P.length = pl (m - sp n) (n - sp n) false) :
    bth m n whole old (P ++ [h]) = (nd h (bth (m - sp n) (n - sp n) false old P).1, nd h (bth (m - sp n) (n - sp n) false old P).2) := by
  unfold bth
  unfold pl at hl
  rw [fl_false, if_pos rfl] at hl
  rw [fl_right h1 h2 hm, fl_false, PD_right h1 h2 hm, if_pos rfl, if_pos rfl]
  match P, hl with
  | p :: P, hl =>
    show upd2 p p _ (P ++ [h]) = _
    rw [upd2_snoc _ _ _ _ _ _ (by simp at hl; omega)]; rfl
/-- what the definitions say: a path leads to the root -/
theorem path_D : ∀ (f m : Nat) (l : List T) (x : T), l[m]? = some x → l.length ≤ f → (path m l).length = (D l.length m).length ∧ upd x (D l.length m) (path m l) = root l
  | f, m, l, x, hx, hf => by
    have h : m < l.length := by
      rcases Nat.lt_or_ge m l.length with h | h
      · exact h
      · rw [List.getElem?_eq_none h] at hx; cases hx
    match f, hf with
    | 0, hf => omega
    | f + 1, hf =>
    by_cases h2 : l.length < 2
    · have h1 : l.length = 1 := by omega
      obtain ⟨a, rfl⟩ := List.length_eq_one_iff.1 h1
      have : m = 0 := by simp at h; omega
      subst this
      obtain rfl : a = x := by simpa using hx
      rw [path_small h2, D_one _ h2]; exact ⟨rfl, rfl⟩
    · have a := sp_lt (n := l.length) (by omega)
      have b := sp_pos (n := l.length) (by omega)
      rw [path_cut (by omega), root_cut (l := l) (by omega)]
      by_cases hm : m < sp l.length
      · obtain ⟨i1, i2⟩ := path_D f m (l.take (sp l.length)) x (by rw [List.getElem?_take, if_pos hm]; exact hx) (by simp; omega)
        rw [show (l.take (sp l.length)).length = sp l.length from by simp; omega] at i1 i2
        rw [if_pos hm, D_left (by omega) hm, upd_snoc _ _ _ _ _ i1.symm, i2]
        exact ⟨by simp [i1], rfl⟩
      · obtain ⟨i1, i2⟩ := path_D f (m - sp l.length) (l.drop (sp l.length)) x (by rw [List.getElem?_drop, show sp l.length + (m - sp l.length) = m from by omega]; exact hx) (by simp; omega)
        rw [show (l.drop (sp l.length)).length = l.length - sp l.length from by simp] at i1 i2
        rw [if_neg hm, D_right (by omega) hm, upd_snoc _ _ _ _ _ i1.symm, i2]
        exact ⟨by simp [i1], rfl⟩
theorem proof_PD : ∀ (f m : Nat) (l : List T) (whole : Bool), 1 ≤ m → m ≤ l.length → l.length ≤ f → (proof m l whole).length = pl m l.length whole ∧ ∀ old, (whole = true → old = root (l.take m)) → bth m l.length whole old (proof m l whole) = (root (l.take m), root l)
  | 0, m, l, whole, h1, h2, hf => by omega
  | f + 1, m, l, whole, h1, h2, hf => by
    by_cases h : m = l.length
    · subst h
      rw [pl_same]
      refine ⟨by cases whole; (rw [proof_part h1]; rfl); (rw [proof_whole h1]; rfl), fun old ho => ?_⟩
      rw [bth_same, List.take_length]
      cases whole
      · rw [proof_part h1]; rfl
      · rw [List.take_length] at ho
        rw [← ho rfl]; rfl
    · have a := sp_lt (n := l.length) (by omega)
      have b := sp_pos (n := l.length) (by omega)
      have c := sp_ge (n := l.length) (by omega)
      by_cases hm : m ≤ sp l.length
      · obtain ⟨i1, i2⟩ := proof_PD f m (l.take (sp l.length)) whole h1 (by simp; omega) (by simp; omega)
        rw [show (l.take (sp l.length)).length = sp l.length from by simp; omega] at i1 i2
        rw [List.take_take, Nat.min_eq_left hm] at i2
        rw [proof_left h1 (by omega) hm, pl_left h1 (by omega) hm]
        refine ⟨by rw [List.length_append, i1]; simp; omega, fun old ho => ?_⟩
        rw [bth_left h1 (by omega) hm _ _ _ _ i1, i2 old ho, root_cut (l := l) (by omega)]
      · obtain ⟨i1, i2⟩ := proof_PD f (m - sp l.length) (l.drop (sp l.length)) false (by omega) (by simp; omega) (by simp; omega)
        rw [show (l.drop (sp l.length)).length = l.length - sp l.length from by simp] at i1 i2
        rw [proof_right h1 (by omega) hm, pl_right h1 (by omega) hm]
        refine ⟨by rw [List.length_append, i1]; simp; omega, fun old ho => ?_⟩
        rw [bth_right h1 (by omega) hm _ _ _ _ i1, i2 old (by simp), root_cut (l := l) (by omega)]
        have e1 : sp (l.take m).length = sp l.length := by
          rw [List.length_take, Nat.min_eq_left h2]
          have d := sp_eq (n := l.length) (by omega)
          rw [d]
          exact sp_one (by omega) _ (by omega) (by omega)
        have e2 : root (l.take m) = nd (root (l.take (sp l.length))) (root ((l.drop (sp l.length)).take (m - sp l.length))) := by
          rw [root_cut (l := l.take m) (by simp; omega), e1, List.take_take, Nat.min_eq_left (by omega), List.drop_take]
        rw [e2]
theorem pl_le : ∀ (f m n : Nat) (whole : Bool), n ≤ f → 1 ≤ m → m ≤ n → pl m n whole ≤ n
  | 0, m, n, whole, hf, h1, h2 => by omega
  | f + 1, m, n, whole, hf, h1, h2 => by
    by_cases h : m = n
    · subst h; rw [pl_same]; cases whole
      · exact h1
      · exact Nat.zero_le _
    · have a := sp_lt (n := n) (by omega)
      have b := sp_pos (n := n) (by omega)
      have c := sp_ge (n := n) (by omega)
      by_cases hm : m ≤ sp n
      · rw [pl_left h1 (by omega) hm]
        have := pl_le f m (sp n) whole (by omega) h1 hm
        omega
      · rw [pl_right h1 (by omega) hm]
        have := pl_le f (m - sp n) (n - sp n) false (by omega) (by omega) (by omega)
        omega
end Go.Proofs.YticjokhfjkebpaaGreatDoor.Tree
