import Derived.Test.YtbodgecbakcaaaaGreatDoorPkO23
import Derived.RangeFuncNested
import Derived.RangeFuncBound
import Derived.RangeFuncCalls
import Derived.RangeFuncLeaves
import Derived.Shelf.Abstract
import Derived.Shelf.RegionOpen
import Derived.WalkKit
import Derived.OwnWalkIn
import Derived.TacticsInMore
import Derived.LoopNIn
import Derived.LoopIn
namespace Go.Proofs.YtbodgecbakcaaaaGreatDoor
open Go.RowKit
structure Mvs (F : Nat → Prop) (w w' : World) (F' : Nat → Prop) : Prop where
  keep : Keep F w w'
  new : ∀ k, F' k → F k ∨ w.heap.size ≤ k
theorem Mvs.trans {F G H : Nat → Prop} {w w1 w2 : World} (h : Mvs F w w1 G) (k : Mvs G w1 w2 H) : Mvs F w w2 H := by
  refine ⟨h.keep.trans k.keep fun j hj hg => ?_, fun j hj => ?_⟩
  · rcases h.new j hg with e | e
    · exact e
    · omega
  · rcases k.new j hj with e | e
    · exact h.new j e
    · exact .inr (Nat.le_trans h.keep.size e)
structure Foot {α : Type} (J : (Nat → Prop) → List α → World → Prop) : Prop where
  keep : ∀ F pre W W' S, J F pre W → Keep S W W' → (∀ k, F k → ¬ S k) → J F pre W'
  lt : ∀ F pre W, J F pre W → ∀ k, F k → k < W.heap.size
theorem Keep.ofPut {S : Nat → Prop} (w : World) (l : Nat) (o : Obj) (hl : S l) : Keep S w (w.putObj l o) :=
  ⟨rfl, rfl, rfl, by rw [World.putObj_size]; exact Nat.le_refl _, fun k _ hs => World.putObj_heap_other (fun e => hs (e ▸ hl))⟩
def IterC {α : Type} (P : Program) (gf : Nat) (lb : Array Value) (encs : α → Array Value) (xs : List α) (C Cw : Nat → Prop) (w : World) : Prop :=
  ∀ (n l : Nat) (J Jx : (Nat → Prop) → List α → World → Prop) (F : Nat → Prop) (W : World), Foot J → Foot Jx → Below w.heap.size w W → (∀ k, F k → ¬ C k) →
    (∀ (F : Nat → Prop) (pre : List α) (x : α) (rest : List α) (W1 : World), J F pre W1 → xs = pre ++ x :: rest → YieldAt Fence.wide (n - 1) P l (encs x) W1 fun e W' =>
      ∃ F', Mvs F W1 W' F' ∧ ((e = .returned (.bool true) ∧ J F' (pre ++ [x]) W') ∨ (e = .returned (.bool false) ∧ Jx F' (pre ++ [x]) W'))) →
    J F [] W →
    CallsIn Fence.wide n P gf (#[.func (.yield l) #[] #[]] ++ lb) W fun e W' => (∃ v, e = .returned v) ∧ ∃ F', Keep (fun k => F k ∨ Cw k) W W' ∧ (∀ k, F' k → F k ∨ W.heap.size ≤ k) ∧ (J F' xs W' ∨ ∃ pre, pre <+: xs ∧ Jx F' pre W')
def footPost {α : Type} (I : (Nat → Prop) → List α → World → Prop) (Ix : Code → (Nat → Prop) → List α → World → Prop) (F : Nat → Prop) (xs : List α) (W : World) : Exit → Act → World → Prop
  | .normal, _, W' => ∃ F', Mvs F W W' F' ∧ I F' xs W'
  | .ret, _, W' => ∃ F', Mvs F W W' F' ∧ Ix .ret F' xs W'
  | .exit id, _, W' => ∃ F', Mvs F W W' F' ∧ Ix (.exit id) F' xs W'
  | .goto t, _, W' => ∃ F', Mvs F W W' F' ∧ Ix (.goto t) F' xs W'
  | .panic _, _, _ => False
  | .outgrown, _, _ => False
structure Aft (F0 C : Nat → Prop) (w W : World) (F : Nat → Prop) (D : Nat) : Prop where
  keep : Keep (fun k => F0 k ∨ C k) w W
  new : ∀ k, F k → F0 k ∨ w.heap.size ≤ k
  mark : W.heap[D]? = some (.deferred (some []))
  hi : w.heap.size ≤ D
  out : ¬ F D
set_option maxHeartbeats 1000000 in
theorem range_foot {α : Type} {P : Program} {n : Nat} {g : Operand} {ps : Array Tmp} {assign body : Code} {Q : Exit → Act → World → Prop} {a : Act} {w : World}
    {gf : Nat} {lb : Array Value} (hg : a.eval g = .func (.func gf) #[] lb) (eg : ∀ args w, (callFunc gf args).run P w = .ok (.enter gf args) w)
    {encs : α → Array Value} {xs : List α} {C Cw : Nat → Prop} (hit : IterC P gf lb encs xs C Cw w) (hps : ∀ x, (encs x).size = ps.size)
    (I : (Nat → Prop) → List α → World → Prop) (Ix : Code → (Nat → Prop) → List α → World → Prop) (hI : Foot I) (hIx : ∀ c, Foot (Ix c))
    (F0 : Nat → Prop) (h0 : I F0 [] w) (hC : ∀ k, F0 k → ¬ C k) (hCl : ∀ k, C k → k < w.heap.size)
    (A : (Nat → Prop) → List α → α → Act → World → Prop) (hA : ∀ x a, Foot (fun F pre W => A F pre x a W))
    (hassign : ∀ (l : Nat) (F : Nat → Prop) (pre : List α) (x : α) (rest : List α) (W : World), I F pre W → xs = pre ++ x :: rest →
      assign.wpIn (Fence.wide.inRound l) (n - 1 - 1) P (Exit.then (fun a₁ W₁ => ∃ F₁, Mvs F W W₁ F₁ ∧ A F₁ pre x a₁ W₁) (fun _ _ _ => False)) { tmps := (ps.zip (encs x)).foldl (fun t (p, v) => t.setIfInBounds p v) a.tmps, defers := [] } W)
    (hbody : ∀ (l : Nat) (F : Nat → Prop) (pre : List α) (x : α) (rest : List α) (a₁ : Act) (W : World), A F pre x a₁ W → xs = pre ++ x :: rest →
      body.wpIn (Fence.wide.inRound l) (n - 1 - 1) P (footPost I Ix F (pre ++ [x]) W) a₁ W)
    (hdone : ∀ (D : Nat) (F : Nat → Prop) (W : World), I F xs W → Aft F0 Cw w W F D → Q .normal { a with defers := { target := .collected D, args := #[] } :: a.defers } W)
    (hstop : ∀ (D : Nat) (c : Code) (F : Nat → Prop) (pre : List α) (W : World), pre <+: xs → Ix c F pre W → Aft F0 Cw w W F D → c.wpIn Fence.wide n P Q { a with defers := { target := .collected D, args := #[] } :: a.defers } W) :
    (Code.rangeFunc g ps assign body).wpIn Fence.wide n P Q a w := by
  refine wpIn_rangeFunc ?_
  intro fn hfn
  obtain ⟨rec, hrec⟩ : ∃ rec : LoopState → Option Code → Loop, rec = fun st pe => { state := st, pending := pe, fn, tmps := a.tmps, params := ps, assign, body, defers := w.heap.size } := ⟨_, rfl⟩
  obtain ⟨W1, hW1⟩ : ∃ W1, (w.alloc (.deferred (some []))).alloc (.loop (rec .ready none)) = W1 := ⟨_, rfl⟩
  have hL1 : W1.heap[w.heap.size + 1]? = some (.loop (rec .ready none)) := by
    rw [← hW1]; have := World.alloc_heap_new (w.alloc (.deferred (some []))) (.loop (rec .ready none)); rwa [World.size_alloc] at this
  have hK1 : W1.heap[w.heap.size]? = some (.deferred (some [])) := by
    rw [← hW1]; exact (Below.heap_alloc _ _ _ (by simp)).trans (World.alloc_heap_new w _)
  have hb1 : Below w.heap.size w W1 := by
    rw [← hW1]; exact ((Below.refl _ w).alloc (Nat.le_refl _) _).alloc (by simp) _
  have hI1 : I F0 [] W1 := hI.keep _ _ _ _ (fun _ => False) h0 (Keep.ofBelow hb1) (fun _ _ e => e)
  have hsz1 : W1.heap.size = w.heap.size + 2 := by rw [← hW1]; simp
  refine ⟨w.heap.size + 1, [{ target := .collected w.heap.size, args := #[] }], W1, { target := .fn (.func gf) lb, args := #[.func (.yield (w.heap.size + 1)) #[] #[]] }, W1, gf,
    #[.func (.yield (w.heap.size + 1)) #[] #[]] ++ lb, W1, ?_, ?_, ?_, ?_, (fun h => by cases h), ?_⟩
  · rw [← hW1, hrec]; exact run_enterLoop_outer _ _ _ _ _
  · simp only [resolve, hg]
    simp [go_sem]
  · intro f' _; trivial
  · simp [invoke, go_sem, eg]
  · obtain ⟨L, hL⟩ : ∃ L, L = w.heap.size + 1 := ⟨_, rfl⟩
    obtain ⟨D, hD⟩ : ∃ D, D = w.heap.size := ⟨_, rfl⟩
    rw [← hL] at hL1
    rw [← hD] at hK1
    have hF0 : ∀ k, F0 k → k < w.heap.size := hI.lt _ _ _ h0
    refine (hit (n - 1) (w.heap.size + 1)
      (fun F pre W => F L ∧ F D ∧ W.heap[L]? = some (.loop (rec .ready none)) ∧ W.heap[D]? = some (.deferred (some [])) ∧ ∃ F1 : Nat → Prop, (∀ k, F1 k → F k) ∧ ¬ F1 L ∧ ¬ F1 D ∧ (∀ k, F k → F1 k ∨ k = L ∨ k = D) ∧ I F1 pre W)
      (fun F pre W => F L ∧ F D ∧ ∃ c, W.heap[L]? = some (.loop (rec .done (some c))) ∧ W.heap[D]? = some (.deferred (some [])) ∧ ∃ F1 : Nat → Prop, (∀ k, F1 k → F k) ∧ ¬ F1 L ∧ ¬ F1 D ∧ (∀ k, F k → F1 k ∨ k = L ∨ k = D) ∧ Ix c F1 pre W)
      (fun k => F0 k ∨ k = L ∨ k = D) W1 ?_ ?_ hb1 ?_ ?_ ?_).mono ?_
    · refine ⟨?_, ?_⟩
      · rintro F pre W W' S ⟨hl, hd, h1, h2, F1, h3, h4, h5, h6, h7⟩ hk hs
        exact ⟨hl, hd, (hk.block L (Array.getElem?_eq_some_iff.1 h1).1 (hs L hl)).trans h1, (hk.block D (Array.getElem?_eq_some_iff.1 h2).1 (hs D hd)).trans h2, F1, h3, h4, h5, h6, hI.keep _ _ _ _ _ h7 hk fun k hk' => hs k (h3 k hk')⟩
      · rintro F pre W ⟨hl, hd, h1, h2, F1, h3, h4, h5, h6, h7⟩ k hk
        rcases h6 k hk with e | rfl | rfl
        · exact hI.lt _ _ _ h7 k e
        · exact (Array.getElem?_eq_some_iff.1 h1).1
        · exact (Array.getElem?_eq_some_iff.1 h2).1
    · refine ⟨?_, ?_⟩
      · rintro F pre W W' S ⟨hl, hd, c, h1, h2, F1, h3, h4, h5, h6, h7⟩ hk hs
        exact ⟨hl, hd, c, (hk.block L (Array.getElem?_eq_some_iff.1 h1).1 (hs L hl)).trans h1, (hk.block D (Array.getElem?_eq_some_iff.1 h2).1 (hs D hd)).trans h2, F1, h3, h4, h5, h6, (hIx c).keep _ _ _ _ _ h7 hk fun k hk' => hs k (h3 k hk')⟩
      · rintro F pre W ⟨hl, hd, c, h1, h2, F1, h3, h4, h5, h6, h7⟩ k hk
        rcases h6 k hk with e | rfl | rfl
        · exact (hIx c).lt _ _ _ h7 k e
        · exact (Array.getElem?_eq_some_iff.1 h1).1
        · exact (Array.getElem?_eq_some_iff.1 h2).1
    · rintro k (e | rfl | rfl) hc
      · exact hC k e hc
      · have := hCl _ hc; omega
      · have := hCl _ hc; omega
    · -- one round
      rintro F pre x rest W ⟨hl, hd, h1, h2, F1, h3, h4, h5, h6, h7⟩ hx
      have hLlt : L < W.heap.size := (Array.getElem?_eq_some_iff.1 h1).1
      have hDlt : D < W.heap.size := (Array.getElem?_eq_some_iff.1 h2).1
      have hy := run_yield (P := P) (args := encs x) h1 (by rw [hrec]; exact hps x)
      rw [hrec] at hy
      refine ⟨fn, _, assign, body, by rw [← hL]; exact hy, roundIn_of_wpIn hfn (wpIn_mono (hassign _ F1 pre x rest W h7 hx) ?_)⟩
      rintro e a₁ W₁ hp
      cases e with
      | normal =>
        obtain ⟨F2, hm1, hA1⟩ := hp
        have nL2 : ¬ F2 L := fun e => by rcases hm1.new L e with e | e; exact h4 e; omega
        have nD2 : ¬ F2 D := fun e => by rcases hm1.new D e with e | e; exact h5 e; omega
        have g1 : W₁.heap[L]? = some (.loop (rec .ready none)) := (hm1.keep.block L hLlt h4).trans h1
        have g2 : W₁.heap[D]? = some (.deferred (some [])) := (hm1.keep.block D hDlt h5).trans h2
        have hLlt1 : L < W₁.heap.size := (Array.getElem?_eq_some_iff.1 g1).1
        have hDlt1 : D < W₁.heap.size := (Array.getElem?_eq_some_iff.1 g2).1
        refine ⟨W₁.putObj L (.loop { rec .ready none with state := .busy }), by rw [← hL]; exact run_beginRound g1 (by rw [hrec]), ?_⟩
        have q1 : (W₁.putObj L (.loop { rec .ready none with state := .busy })).heap[L]? = some (.loop { rec .ready none with state := .busy }) := World.putObj_heap_same hLlt1
        have q2 : (W₁.putObj L (.loop { rec .ready none with state := .busy })).heap[D]? = some (.deferred (some [])) := (World.putObj_heap_other (by omega)).trans g2
        have kp1 : Keep (fun k => k = L) W₁ (W₁.putObj L (.loop { rec .ready none with state := .busy })) := Keep.ofPut _ _ _ rfl
        have hA2 := (hA x a₁).keep _ _ _ _ _ hA1 kp1 (fun k hk e => nL2 (e ▸ hk))
        generalize hW2 : W₁.putObj L (.loop { rec .ready none with state := .busy }) = W₂ at *
        refine wpIn_mono (hbody _ F2 pre x rest a₁ W₂ hA2 hx) ?_
        have fin : ∀ (jump : Option Code) (W3 : World) (F3 : Nat → Prop), Mvs F2 W₂ W3 F3 →
            (Instr.endRound (w.heap.size + 1) jump).run P W3 = .ok (.bool jump.isNone) (W3.putObj L (.loop (rec (if jump.isNone then .ready else .done) jump))) ∧
            (W3.putObj L (.loop (rec (if jump.isNone then .ready else .done) jump))).heap[L]? = some (.loop (rec (if jump.isNone then .ready else .done) jump)) ∧
            (W3.putObj L (.loop (rec (if jump.isNone then .ready else .done) jump))).heap[D]? = some (.deferred (some [])) ∧ ¬ F3 L ∧ ¬ F3 D ∧
            Mvs F W (W3.putObj L (.loop (rec (if jump.isNone then .ready else .done) jump))) (fun k => F3 k ∨ k = L ∨ k = D) := fun jump W3 F3 hm => by
          have r1 := (hm.keep.block L (Array.getElem?_eq_some_iff.1 q1).1 nL2).trans q1
          have r2 := (hm.keep.block D (Array.getElem?_eq_some_iff.1 q2).1 nD2).trans q2
          have := run_endRound (P := P) jump r1
          rw [hrec] at this ⊢
          have nL3 : ¬ F3 L := fun e => by rcases hm.new L e with e | e; exact nL2 e; have := (Array.getElem?_eq_some_iff.1 q1).1; omega
          have nD3 : ¬ F3 D := fun e => by rcases hm.new D e with e | e; exact nD2 e; have := (Array.getElem?_eq_some_iff.1 q2).1; omega
          refine ⟨by rw [← hL]; exact this, World.putObj_heap_same (Array.getElem?_eq_some_iff.1 r1).1, (World.putObj_heap_other (by omega)).trans r2, nL3, nD3, ?_, ?_⟩
          · have e1 : Keep F W W₁ := hm1.keep.mono fun j _ hj => h3 j hj
            have e2 : Keep F W W₂ := e1.trans kp1 fun j _ hj => by rw [hj]; exact hl
            have e3 : Keep F W W3 := e2.trans hm.keep fun j hj hg => by
              rcases hm1.new j hg with e | e
              · exact h3 j e
              · omega
            exact e3.trans (Keep.ofPut (S := fun k => k = L) _ _ _ rfl) fun j _ hj => by rw [hj]; exact hl
          · rintro k (e | rfl | rfl)
            · have hs2 : W₁.heap.size ≤ W₂.heap.size := kp1.size
              have hs1 := hm1.keep.size
              rcases hm.new k e with e | e
              · rcases hm1.new k e with e | e
                · exact .inl (h3 k e)
                · exact .inr e
              · exact .inr (by omega)
            · exact .inl hl
            · exact .inl hd
        rintro e a3 W3 hp
        cases e with
        | normal =>
          obtain ⟨F3, hm, hi3⟩ := hp
          obtain ⟨hr, t1, t2, t3, t4, t5⟩ := fin none W3 F3 hm
          exact ⟨_, _, hr, _, t5, .inl ⟨rfl, .inr (.inl rfl), .inr (.inr rfl), t1, t2, F3, fun k hk => .inl hk, t3, t4, fun k hk => hk, hI.keep _ _ _ _ _ hi3 (Keep.ofPut (S := fun k => k = L) _ _ _ rfl) (fun k hk e => t3 (e ▸ hk))⟩⟩
        | ret =>
          obtain ⟨F3, hm, hi3⟩ := hp
          obtain ⟨hr, t1, t2, t3, t4, t5⟩ := fin (some .ret) W3 F3 hm
          exact ⟨_, _, hr, _, t5, .inr ⟨rfl, .inr (.inl rfl), .inr (.inr rfl), _, t1, t2, F3, fun k hk => .inl hk, t3, t4, fun k hk => hk, (hIx _).keep _ _ _ _ _ hi3 (Keep.ofPut (S := fun k => k = L) _ _ _ rfl) (fun k hk e => t3 (e ▸ hk))⟩⟩
        | exit id =>
          obtain ⟨F3, hm, hi3⟩ := hp
          obtain ⟨hr, t1, t2, t3, t4, t5⟩ := fin (some (.exit id)) W3 F3 hm
          exact ⟨_, _, hr, _, t5, .inr ⟨rfl, .inr (.inl rfl), .inr (.inr rfl), _, t1, t2, F3, fun k hk => .inl hk, t3, t4, fun k hk => hk, (hIx _).keep _ _ _ _ _ hi3 (Keep.ofPut (S := fun k => k = L) _ _ _ rfl) (fun k hk e => t3 (e ▸ hk))⟩⟩
        | goto t =>
          obtain ⟨F3, hm, hi3⟩ := hp
          obtain ⟨hr, t1, t2, t3, t4, t5⟩ := fin (some (.goto t)) W3 F3 hm
          exact ⟨_, _, hr, _, t5, .inr ⟨rfl, .inr (.inl rfl), .inr (.inr rfl), _, t1, t2, F3, fun k hk => .inl hk, t3, t4, fun k hk => hk, (hIx _).keep _ _ _ _ _ hi3 (Keep.ofPut (S := fun k => k = L) _ _ _ rfl) (fun k hk e => t3 (e ▸ hk))⟩⟩
        | panic ch => exact hp.elim
        | outgrown => exact hp.elim
      | exit id => exact hp.elim
      | goto t => exact hp.elim
      | ret => exact hp.elim
      | panic ch => exact hp.elim
      | outgrown => exact hp.elim
    · exact ⟨.inr (.inl rfl), .inr (.inr rfl), hL1, hK1, F0, fun k hk => .inl hk, fun e => by have := hF0 _ e; omega, fun e => by have := hF0 _ e; omega, fun k hk => hk, hI1⟩
    · -- behind the iterator
      rintro e W2 ⟨⟨v, rfl⟩, F', hk, hn, hj⟩
      have aft : ∀ (o : Obj) (F1 : Nat → Prop), (∀ k, F1 k → F' k) → ¬ F1 L → ¬ F1 D → W2.heap[D]? = some (.deferred (some [])) → Aft F0 Cw w (W2.putObj L o) F1 D := fun o F1 h3 h4 h5 h2 => by
        refine ⟨?_, fun k hk' => ?_, (World.putObj_heap_other (by omega)).trans h2, by omega, h5⟩
        · have e1 : Keep (fun k => F0 k ∨ Cw k) w W1 := Keep.ofBelow hb1
          have e2 : Keep (fun k => F0 k ∨ Cw k) w W2 := e1.trans hk fun j hj hg => by
            rcases hg with (e | rfl | rfl) | e
            · exact .inl e
            · omega
            · omega
            · exact .inr e
          exact e2.trans (Keep.ofPut (S := fun k => k = L) _ _ _ rfl) fun j hj he => by rw [he] at hj; omega
        · rcases hn k (h3 k hk') with (e | rfl | rfl) | e
          · exact .inl e
          · exact absurd hk' h4
          · exact absurd hk' h5
          · exact .inr (by omega)
      rcases hj with ⟨hl, hd, h1, h2, F1, h3, h4, h5, h6, h7⟩ | ⟨pre, hpre, hl, hd, c, h1, h2, F1, h3, h4, h5, h6, h7⟩
      · refine ⟨none, W2.putObj L (.loop { rec .ready none with state := .exhausted }), by rw [← hL]; have := run_endLoop (P := P) h1 (by rw [hrec]; simp); rw [hrec] at this ⊢; exact this, ?_⟩
        rw [← hD]
        exact hdone D F1 _ (hI.keep _ _ _ _ _ h7 (Keep.ofPut (S := fun k => k = L) _ _ _ rfl) (fun k hk e => h4 (e ▸ hk))) (aft _ F1 h3 h4 h5 h2)
      · refine ⟨some c, W2.putObj L (.loop { rec .done (some c) with state := .exhausted }), by rw [← hL]; have := run_endLoop (P := P) h1 (by rw [hrec]; simp); rw [hrec] at this ⊢; exact this, ?_⟩
        rw [← hD]
        exact hstop D c F1 pre _ hpre ((hIx c).keep _ _ _ _ _ h7 (Keep.ofPut (S := fun k => k = L) _ _ _ rfl) (fun k hk e => h4 (e ▸ hk))) (aft _ F1 h3 h4 h5 h2)
end Go.Proofs.YtbodgecbakcaaaaGreatDoor
