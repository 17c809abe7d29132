import Derived.Test.YtmpaliocfikifaaDoorCO25
import Derived.RangeFuncNested
import Derived.RangeFuncBound
import Derived.RangeFuncCalls
import Derived.RangeFuncLeaves
import Derived.Shelf.Abstract
import Derived.Shelf.RegionOpen
import Derived.WalkKit
import Derived.OwnWalkIn
import Derived.TacticsInMore
import Derived.LoopNIn
import Derived.LoopIn
import Derived.Test.YtmpaliocfikifaaDoorCK3
import Derived.Test.YtmpaliocfikifaaDoorCSH3
import Derived.Laws.ResultCell
import Derived.BigQuiet
import Derived.Deep.RegionHeld3
namespace Go.Proofs.YtmpaliocfikifaaDoor
open Go.RowKit

/-- blocks of F alone were touched; F' has what is new besides -/
structure Mvs (F : Nat → Prop) (w w' : World) (F' : Nat → Prop) : Prop where
  keep : Keep F w w'
  new : ∀ k, F' k → F k ∨ w.heap.size ≤ k
theorem Mvs.trans {F G H : Nat → Prop} {w w1 w2 : World} (h : Mvs F w w1 G) (k : Mvs G w1 w2 H) : Mvs F w w2 H := by
  refine ⟨h.keep.trans k.keep fun j hj hg => ?_, fun j hj => ?_⟩
  · rcases h.new j hg with e | e
    · exact e
    · omega
  · rcases k.new j hj with e | e
    · exact h.new j e
    · exact .inr (Nat.le_trans h.keep.size e)
theorem Mvs.refl (F : Nat → Prop) (w : World) : Mvs F w w F := ⟨Keep.refl F w, fun _ h => .inl h⟩
/-- what is said hangs on these blocks alone -/
structure Foot {α : Type} (J : (Nat → Prop) → List α → World → Prop) : Prop where
  keep : ∀ F pre W W' S, J F pre W → Keep S W W' → (∀ k, F k → ¬ S k) → J F pre W'
  lt : ∀ F pre W, J F pre W → ∀ k, F k → k < W.heap.size
theorem Keep.ofPut {S : Nat → Prop} (w : World) (l : Nat) (o : Obj) (hl : S l) : Keep S w (w.putObj l o) :=
  ⟨rfl, rfl, rfl, by rw [World.putObj_size]; exact Nat.le_refl _, fun k _ hs => World.putObj_heap_other (fun e => hs (e ▸ hl))⟩
/-- an iterator: it tells xs, one by one; C: blocks that it looks at and a round must not touch; Cw: those that it writes into -/
def IterC {α : Type} (P : Program) (gf : Nat) (lb : Array Value) (encs : α → Array Value) (xs : List α) (C Cw : Nat → Prop) (w : World) : Prop :=
  ∀ (n l : Nat) (J Jx : (Nat → Prop) → List α → World → Prop) (F : Nat → Prop) (W : World), Foot J → Foot Jx → Below w.heap.size w W → (∀ k, F k → ¬ C k) →
    (∀ (F : Nat → Prop) (pre : List α) (x : α) (rest : List α) (W1 : World), J F pre W1 → xs = pre ++ x :: rest → YieldAt Fence.wide (n - 1) P l (encs x) W1 fun e W' =>
      ∃ F', Mvs F W1 W' F' ∧ ((e = .returned (.bool true) ∧ J F' (pre ++ [x]) W') ∨ (e = .returned (.bool false) ∧ Jx F' (pre ++ [x]) W'))) →
    J F [] W →
    CallsIn Fence.wide n P gf (#[.func (.yield l) #[] #[]] ++ lb) W fun e W' => (∃ v, e = .returned v) ∧ ∃ F', Keep (fun k => F k ∨ Cw k) W W' ∧ (∀ k, F' k → F k ∨ W.heap.size ≤ k) ∧ (J F' xs W' ∨ ∃ pre, pre <+: xs ∧ Jx F' pre W')
/-- how a round's body may be left -/
def footPost {α : Type} (I : (Nat → Prop) → List α → World → Prop) (Ix : Code → (Nat → Prop) → List α → World → Prop) (F : Nat → Prop) (xs : List α) (W : World) : Exit → Act → World → Prop
  | .normal, _, W' => ∃ F', Mvs F W W' F' ∧ I F' xs W'
  | .ret, _, W' => ∃ F', Mvs F W W' F' ∧ Ix .ret F' xs W'
  | .exit id, _, W' => ∃ F', Mvs F W W' F' ∧ Ix (.exit id) F' xs W'
  | .goto t, _, W' => ∃ F', Mvs F W W' F' ∧ Ix (.goto t) F' xs W'
  | .panic _, _, _ => False
  | .outgrown, _, _ => False
/-- the world behind the loop, seen from ahead of it -/
structure Aft (F0 C : Nat → Prop) (w W : World) (F : Nat → Prop) (D : Nat) : Prop where
  keep : Keep (fun k => F0 k ∨ C k) w W
  new : ∀ k, F k → F0 k ∨ w.heap.size ≤ k
  mark : W.heap[D]? = some (.deferred (some []))
  hi : w.heap.size ≤ D
  out : ¬ F D
set_option maxHeartbeats 1000000 in
theorem range_foot {α : Type} {P : Program} {n : Nat} {g : Operand} {ps : Array Tmp} {assign body : Code} {Q : Exit → Act → World → Prop} {a : Act} {w : World}
    {gf : Nat} {lb : Array Value} (hg : a.eval g = .func (.func gf) #[] lb) (eg : ∀ args w, (callFunc gf args).run P w = .ok (.enter gf args) w)
    {encs : α → Array Value} {xs : List α} {C Cw : Nat → Prop} (hit : IterC P gf lb encs xs C Cw w) (hps : ∀ x, (encs x).size = ps.size)
    (I : (Nat → Prop) → List α → World → Prop) (Ix : Code → (Nat → Prop) → List α → World → Prop) (hI : Foot I) (hIx : ∀ c, Foot (Ix c))
    (F0 : Nat → Prop) (h0 : I F0 [] w) (hC : ∀ k, F0 k → ¬ C k) (hCl : ∀ k, C k → k < w.heap.size)
    (A : (Nat → Prop) → List α → α → Act → World → Prop) (hA : ∀ x a, Foot (fun F pre W => A F pre x a W))
    (hassign : ∀ (l : Nat) (F : Nat → Prop) (pre : List α) (x : α) (rest : List α) (W : World), I F pre W → xs = pre ++ x :: rest →
      assign.wpIn (Fence.wide.inRound l) (n - 1 - 1) P (Exit.then (fun a₁ W₁ => ∃ F₁, Mvs F W W₁ F₁ ∧ A F₁ pre x a₁ W₁) (fun _ _ _ => False)) { tmps := (ps.zip (encs x)).foldl (fun t (p, v) => t.setIfInBounds p v) a.tmps, defers := [] } W)
    (hbody : ∀ (l : Nat) (F : Nat → Prop) (pre : List α) (x : α) (rest : List α) (a₁ : Act) (W : World), A F pre x a₁ W → xs = pre ++ x :: rest →
      body.wpIn (Fence.wide.inRound l) (n - 1 - 1) P (footPost I Ix F (pre ++ [x]) W) a₁ W)
    (hdone : ∀ (D : Nat) (F : Nat → Prop) (W : World), I F xs W → Aft F0 Cw w W F D → Q .normal { a with defers := { target := .collected D, args := #[] } :: a.defers } W)
    (hstop : ∀ (D : Nat) (c : Code) (F : Nat → Prop) (pre : List α) (W : World), pre <+: xs → Ix c F pre W → Aft F0 Cw w W F D → c.wpIn Fence.wide n P Q { a with defers := { target := .collected D, args := #[] } :: a.defers } W) :
    (Code.rangeFunc g ps assign body).wpIn Fence.wide n P Q a w := by
  refine wpIn_rangeFunc ?_
  intro fn hfn
  obtain ⟨rec, hrec⟩ : ∃ rec : LoopState → Option Code → Loop, rec = fun st pe => { state := st, pending := pe, fn, tmps := a.tmps, params := ps, assign, body, defers := w.heap.size } := ⟨_, rfl⟩
  obtain ⟨W1, hW1⟩ : ∃ W1, (w.alloc (.deferred (some []))).alloc (.loop (rec .ready none)) = W1 := ⟨_, rfl⟩
  have hL1 : W1.heap[w.heap.size + 1]? = some (.loop (rec .ready none)) := by
    rw [← hW1]; have := World.alloc_heap_new (w.alloc (.deferred (some []))) (.loop (rec .ready none)); rwa [World.size_alloc] at this
  have hK1 : W1.heap[w.heap.size]? = some (.deferred (some [])) := by
    rw [← hW1]; exact (Below.heap_alloc _ _ _ (by simp)).trans (World.alloc_heap_new w _)
  have hb1 : Below w.heap.size w W1 := by
    rw [← hW1]; exact ((Below.refl _ w).alloc (Nat.le_refl _) _).alloc (by simp) _
  have hI1 : I F0 [] W1 := hI.keep _ _ _ _ (fun _ => False) h0 (Keep.ofBelow hb1) (fun _ _ e => e)
  have hsz1 : W1.heap.size = w.heap.size + 2 := by rw [← hW1]; simp
  refine ⟨w.heap.size + 1, [{ target := .collected w.heap.size, args := #[] }], W1, { target := .fn (.func gf) lb, args := #[.func (.yield (w.heap.size + 1)) #[] #[]] }, W1, gf,
    #[.func (.yield (w.heap.size + 1)) #[] #[]] ++ lb, W1, ?_, ?_, ?_, ?_, (fun h => by cases h), ?_⟩
  · rw [← hW1, hrec]; exact run_enterLoop_outer _ _ _ _ _
  · simp only [resolve, hg]
    simp [go_sem]
  · intro f' _; trivial
  · simp [invoke, go_sem, eg]
  · obtain ⟨L, hL⟩ : ∃ L, L = w.heap.size + 1 := ⟨_, rfl⟩
    obtain ⟨D, hD⟩ : ∃ D, D = w.heap.size := ⟨_, rfl⟩
    rw [← hL] at hL1
    rw [← hD] at hK1
    have hF0 : ∀ k, F0 k → k < w.heap.size := hI.lt _ _ _ h0
    refine (hit (n - 1) (w.heap.size + 1)
      (fun F pre W => F L ∧ F D ∧ W.heap[L]? = some (.loop (rec .ready none)) ∧ W.heap[D]? = some (.deferred (some [])) ∧ ∃ F1 : Nat → Prop, (∀ k, F1 k → F k) ∧ ¬ F1 L ∧ ¬ F1 D ∧ (∀ k, F k → F1 k ∨ k = L ∨ k = D) ∧ I F1 pre W)
      (fun F pre W => F L ∧ F D ∧ ∃ c, W.heap[L]? = some (.loop (rec .done (some c))) ∧ W.heap[D]? = some (.deferred (some [])) ∧ ∃ F1 : Nat → Prop, (∀ k, F1 k → F k) ∧ ¬ F1 L ∧ ¬ F1 D ∧ (∀ k, F k → F1 k ∨ k = L ∨ k = D) ∧ Ix c F1 pre W)
      (fun k => F0 k ∨ k = L ∨ k = D) W1 ?_ ?_ hb1 ?_ ?_ ?_).mono ?_
    · refine ⟨?_, ?_⟩
      · rintro F pre W W' S ⟨hl, hd, h1, h2, F1, h3, h4, h5, h6, h7⟩ hk hs
        exact ⟨hl, hd, (hk.block L (Array.getElem?_eq_some_iff.1 h1).1 (hs L hl)).trans h1, (hk.block D (Array.getElem?_eq_some_iff.1 h2).1 (hs D hd)).trans h2, F1, h3, h4, h5, h6, hI.keep _ _ _ _ _ h7 hk fun k hk' => hs k (h3 k hk')⟩
      · rintro F pre W ⟨hl, hd, h1, h2, F1, h3, h4, h5, h6, h7⟩ k hk
        rcases h6 k hk with e | rfl | rfl
        · exact hI.lt _ _ _ h7 k e
        · exact (Array.getElem?_eq_some_iff.1 h1).1
        · exact (Array.getElem?_eq_some_iff.1 h2).1
    · refine ⟨?_, ?_⟩
      · rintro F pre W W' S ⟨hl, hd, c, h1, h2, F1, h3, h4, h5, h6, h7⟩ hk hs
        exact ⟨hl, hd, c, (hk.block L (Array.getElem?_eq_some_iff.1 h1).1 (hs L hl)).trans h1, (hk.block D (Array.getElem?_eq_some_iff.1 h2).1 (hs D hd)).trans h2, F1, h3, h4, h5, h6, (hIx c).keep _ _ _ _ _ h7 hk fun k hk' => hs k (h3 k hk')⟩
      · rintro F pre W ⟨hl, hd, c, h1, h2, F1, h3, h4, h5, h6, h7⟩ k hk
        rcases h6 k hk with e | rfl | rfl
        · exact (hIx c).lt _ _ _ h7 k e
        · exact (Array.getElem?_eq_some_iff.1 h1).1
        · exact (Array.getElem?_eq_some_iff.1 h2).1
    · rintro k (e | rfl | rfl) hc
      · exact hC k e hc
      · have := hCl _ hc; omega
      · have := hCl _ hc; omega
    · -- one round
      rintro F pre x rest W ⟨hl, hd, h1, h2, F1, h3, h4, h5, h6, h7⟩ hx
      have hLlt : L < W.heap.size := (Array.getElem?_eq_some_iff.1 h1).1
      have hDlt : D < W.heap.size := (Array.getElem?_eq_some_iff.1 h2).1
      have hy := run_yield (P := P) (args := encs x) h1 (by rw [hrec]; exact hps x)
      rw [hrec] at hy
      refine ⟨fn, _, assign, body, by rw [← hL]; exact hy, roundIn_of_wpIn hfn (wpIn_mono (hassign _ F1 pre x rest W h7 hx) ?_)⟩
      rintro e a₁ W₁ hp
      cases e with
      | normal =>
        obtain ⟨F2, hm1, hA1⟩ := hp
        have nL2 : ¬ F2 L := fun e => by rcases hm1.new L e with e | e; exact h4 e; omega
        have nD2 : ¬ F2 D := fun e => by rcases hm1.new D e with e | e; exact h5 e; omega
        have g1 : W₁.heap[L]? = some (.loop (rec .ready none)) := (hm1.keep.block L hLlt h4).trans h1
        have g2 : W₁.heap[D]? = some (.deferred (some [])) := (hm1.keep.block D hDlt h5).trans h2
        have hLlt1 : L < W₁.heap.size := (Array.getElem?_eq_some_iff.1 g1).1
        have hDlt1 : D < W₁.heap.size := (Array.getElem?_eq_some_iff.1 g2).1
        refine ⟨W₁.putObj L (.loop { rec .ready none with state := .busy }), by rw [← hL]; exact run_beginRound g1 (by rw [hrec]), ?_⟩
        have q1 : (W₁.putObj L (.loop { rec .ready none with state := .busy })).heap[L]? = some (.loop { rec .ready none with state := .busy }) := World.putObj_heap_same hLlt1
        have q2 : (W₁.putObj L (.loop { rec .ready none with state := .busy })).heap[D]? = some (.deferred (some [])) := (World.putObj_heap_other (by omega)).trans g2
        have kp1 : Keep (fun k => k = L) W₁ (W₁.putObj L (.loop { rec .ready none with state := .busy })) := Keep.ofPut _ _ _ rfl
        have hA2 := (hA x a₁).keep _ _ _ _ _ hA1 kp1 (fun k hk e => nL2 (e ▸ hk))
        generalize hW2 : W₁.putObj L (.loop { rec .ready none with state := .busy }) = W₂ at *
        refine wpIn_mono (hbody _ F2 pre x rest a₁ W₂ hA2 hx) ?_
        have fin : ∀ (jump : Option Code) (W3 : World) (F3 : Nat → Prop), Mvs F2 W₂ W3 F3 →
            (Instr.endRound (w.heap.size + 1) jump).run P W3 = .ok (.bool jump.isNone) (W3.putObj L (.loop (rec (if jump.isNone then .ready else .done) jump))) ∧
            (W3.putObj L (.loop (rec (if jump.isNone then .ready else .done) jump))).heap[L]? = some (.loop (rec (if jump.isNone then .ready else .done) jump)) ∧
            (W3.putObj L (.loop (rec (if jump.isNone then .ready else .done) jump))).heap[D]? = some (.deferred (some [])) ∧ ¬ F3 L ∧ ¬ F3 D ∧
            Mvs F W (W3.putObj L (.loop (rec (if jump.isNone then .ready else .done) jump))) (fun k => F3 k ∨ k = L ∨ k = D) := fun jump W3 F3 hm => by
          have r1 := (hm.keep.block L (Array.getElem?_eq_some_iff.1 q1).1 nL2).trans q1
          have r2 := (hm.keep.block D (Array.getElem?_eq_some_iff.1 q2).1 nD2).trans q2
          have := run_endRound (P := P) jump r1
          rw [hrec] at this ⊢
          have nL3 : ¬ F3 L := fun e => by rcases hm.new L e with e | e; exact nL2 e; have := (Array.getElem?_eq_some_iff.1 q1).1; omega
          have nD3 : ¬ F3 D := fun e => by rcases hm.new D e with e | e; exact nD2 e; have := (Array.getElem?_eq_some_iff.1 q2).1; omega
          refine ⟨by rw [← hL]; exact this, World.putObj_heap_same (Array.getElem?_eq_some_iff.1 r1).1, (World.putObj_heap_other (by omega)).trans r2, nL3, nD3, ?_, ?_⟩
          · have e1 : Keep F W W₁ := hm1.keep.mono fun j _ hj => h3 j hj
            have e2 : Keep F W W₂ := e1.trans kp1 fun j _ hj => by rw [hj]; exact hl
            have e3 : Keep F W W3 := e2.trans hm.keep fun j hj hg => by
              rcases hm1.new j hg with e | e
              · exact h3 j e
              · omega
            exact e3.trans (Keep.ofPut (S := fun k => k = L) _ _ _ rfl) fun j _ hj => by rw [hj]; exact hl
          · rintro k (e | rfl | rfl)
            · have hs2 : W₁.heap.size ≤ W₂.heap.size := kp1.size
              have hs1 := hm1.keep.size
              rcases hm.new k e with e | e
              · rcases hm1.new k e with e | e
                · exact .inl (h3 k e)
                · exact .inr e
              · exact .inr (by omega)
            · exact .inl hl
            · exact .inl hd
        rintro e a3 W3 hp
        cases e with
        | normal =>
          obtain ⟨F3, hm, hi3⟩ := hp
          obtain ⟨hr, t1, t2, t3, t4, t5⟩ := fin none W3 F3 hm
          exact ⟨_, _, hr, _, t5, .inl ⟨rfl, .inr (.inl rfl), .inr (.inr rfl), t1, t2, F3, fun k hk => .inl hk, t3, t4, fun k hk => hk, hI.keep _ _ _ _ _ hi3 (Keep.ofPut (S := fun k => k = L) _ _ _ rfl) (fun k hk e => t3 (e ▸ hk))⟩⟩
        | ret =>
          obtain ⟨F3, hm, hi3⟩ := hp
          obtain ⟨hr, t1, t2, t3, t4, t5⟩ := fin (some .ret) W3 F3 hm
          exact ⟨_, _, hr, _, t5, .inr ⟨rfl, .inr (.inl rfl), .inr (.inr rfl), _, t1, t2, F3, fun k hk => .inl hk, t3, t4, fun k hk => hk, (hIx _).keep _ _ _ _ _ hi3 (Keep.ofPut (S := fun k => k = L) _ _ _ rfl) (fun k hk e => t3 (e ▸ hk))⟩⟩
        | exit id =>
          obtain ⟨F3, hm, hi3⟩ := hp
          obtain ⟨hr, t1, t2, t3, t4, t5⟩ := fin (some (.exit id)) W3 F3 hm
          exact ⟨_, _, hr, _, t5, .inr ⟨rfl, .inr (.inl rfl), .inr (.inr rfl), _, t1, t2, F3, fun k hk => .inl hk, t3, t4, fun k hk => hk, (hIx _).keep _ _ _ _ _ hi3 (Keep.ofPut (S := fun k => k = L) _ _ _ rfl) (fun k hk e => t3 (e ▸ hk))⟩⟩
        | goto t =>
          obtain ⟨F3, hm, hi3⟩ := hp
          obtain ⟨hr, t1, t2, t3, t4, t5⟩ := fin (some (.goto t)) W3 F3 hm
          exact ⟨_, _, hr, _, t5, .inr ⟨rfl, .inr (.inl rfl), .inr (.inr rfl), _, t1, t2, F3, fun k hk => .inl hk, t3, t4, fun k hk => hk, (hIx _).keep _ _ _ _ _ hi3 (Keep.ofPut (S := fun k => k = L) _ _ _ rfl) (fun k hk e => t3 (e ▸ hk))⟩⟩
        | panic ch => exact hp.elim
        | outgrown => exact hp.elim
      | exit id => exact hp.elim
      | goto t => exact hp.elim
      | ret => exact hp.elim
      | panic ch => exact hp.elim
      | outgrown => exact hp.elim
    · exact ⟨.inr (.inl rfl), .inr (.inr rfl), hL1, hK1, F0, fun k hk => .inl hk, fun e => by have := hF0 _ e; omega, fun e => by have := hF0 _ e; omega, fun k hk => hk, hI1⟩
    · -- behind the iterator
      rintro e W2 ⟨⟨v, rfl⟩, F', hk, hn, hj⟩
      have aft : ∀ (o : Obj) (F1 : Nat → Prop), (∀ k, F1 k → F' k) → ¬ F1 L → ¬ F1 D → W2.heap[D]? = some (.deferred (some [])) → Aft F0 Cw w (W2.putObj L o) F1 D := fun o F1 h3 h4 h5 h2 => by
        refine ⟨?_, fun k hk' => ?_, (World.putObj_heap_other (by omega)).trans h2, by omega, h5⟩
        · have e1 : Keep (fun k => F0 k ∨ Cw k) w W1 := Keep.ofBelow hb1
          have e2 : Keep (fun k => F0 k ∨ Cw k) w W2 := e1.trans hk fun j hj hg => by
            rcases hg with (e | rfl | rfl) | e
            · exact .inl e
            · omega
            · omega
            · exact .inr e
          exact e2.trans (Keep.ofPut (S := fun k => k = L) _ _ _ rfl) fun j hj he => by rw [he] at hj; omega
        · rcases hn k (h3 k hk') with (e | rfl | rfl) | e
          · exact .inl e
          · exact absurd hk' h4
          · exact absurd hk' h5
          · exact .inr (by omega)
      rcases hj with ⟨hl, hd, h1, h2, F1, h3, h4, h5, h6, h7⟩ | ⟨pre, hpre, hl, hd, c, h1, h2, F1, h3, h4, h5, h6, h7⟩
      · refine ⟨none, W2.putObj L (.loop { rec .ready none with state := .exhausted }), by rw [← hL]; have := run_endLoop (P := P) h1 (by rw [hrec]; simp); rw [hrec] at this ⊢; exact this, ?_⟩
        rw [← hD]
        exact hdone D F1 _ (hI.keep _ _ _ _ _ h7 (Keep.ofPut (S := fun k => k = L) _ _ _ rfl) (fun k hk e => h4 (e ▸ hk))) (aft _ F1 h3 h4 h5 h2)
      · refine ⟨some c, W2.putObj L (.loop { rec .done (some c) with state := .exhausted }), by rw [← hL]; have := run_endLoop (P := P) h1 (by rw [hrec]; simp); rw [hrec] at this ⊢; exact this, ?_⟩
        rw [← hD]
        exact hstop D c F1 pre _ hpre ((hIx c).keep _ _ _ _ _ h7 (Keep.ofPut (S := fun k => k = L) _ _ _ rfl) (fun k hk e => h4 (e ▸ hk))) (aft _ F1 h3 h4 h5 h2)
end Go.Proofs.YtmpaliocfikifaaDoor

namespace Go.Proofs.YtmpaliocfikifaaDoor
open Go.RowKit
/-- two results, each in a row -/
theorem results_row_row {P : Program} {fn : Func} {p u : Tmp} {ty tu : TypeId} (h : fn.results = #[.cell p ty, .cell u tu]) (tmps : Array Value) (w : World) (g g' : Nat) (t t' : TypeId) (cs cs' : Array Value) (fr fr' : Nat × Nat) (d d' : TypeDesc)
    (hp : tmps.getD p undef = .pointer (some ⟨g, 0, none⟩)) (hg : w.heap[g]? = some (.cells cs t fr))
    (hu : P.underlying ty = some d) (hd : (match d with | .struct _ | .array _ _ => true | _ => false) = true) (hi : (P.info? ty).map (·.size) = some cs.size)
    (hp' : tmps.getD u undef = .pointer (some ⟨g', 0, none⟩)) (hg' : w.heap[g']? = some (.cells cs' t' fr'))
    (hu' : P.underlying tu = some d') (hd' : (match d' with | .struct _ | .array _ _ => true | _ => false) = true) (hi' : (P.info? tu).map (·.size) = some cs'.size) :
    (results fn tmps).run P w = .ok (.tuple #[.agg cs, .agg cs']) w := by
  have q : tmps[p]?.getD undef = .pointer (some ⟨g, 0, none⟩) := by simpa using hp
  have q' : tmps[u]?.getD undef = .pointer (some ⟨g', 0, none⟩) := by simpa using hp'
  simp only [results, h]
  simp [Sem.run_bind, Result.andThen, q, q', asAddr, run_loadVar_row w g t ty cs fr d hg hu hd hi, run_loadVar_row w g' t' tu cs' fr' d' hg' hu' hd' hi']
/-- a span among the values -/
abbrev sg (b e : Int) : Value := .agg #[.int .i64 b, .int .i64 e]
/-- a span's variable, of whatever numbers -/
def SpI (w : World) (g : Nat) (b e : Int) : Prop := w.heap[g]? = some (.cells #[.int .i64 b, .int .i64 e] 67 (0, 0))
theorem SpI.c0 {w : World} {g : Nat} {b e : Int} (h : SpI w g b e) : w.cell? ⟨g, 0, none⟩ = some (.int .i64 b) := by rw [cell_of_row w g 0 _ _ _ h]; rfl
theorem SpI.c1 {w : World} {g : Nat} {b e : Int} (h : SpI w g b e) : w.cell? ⟨g, 1, none⟩ = some (.int .i64 e) := by rw [cell_of_row w g 1 _ _ _ h]; rfl
theorem SpI.f0 {w : World} {g : Nat} {b e : Int} (h : SpI w g b e) : w.frozen? ⟨g, 0, none⟩ = false := frozen_of_row _ _ _ _ _ h
theorem SpI.f1 {w : World} {g : Nat} {b e : Int} (h : SpI w g b e) : w.frozen? ⟨g, 1, none⟩ = false := frozen_of_row _ _ _ _ _ h
theorem SpI.new (w : World) (b e : Int) : SpI (w.alloc (.cells #[.int .i64 b, .int .i64 e] 67)) w.heap.size b e := heap_alloc_new w _
theorem SpI.below {w w' : World} {g : Nat} {b e : Int} (h : SpI w g b e) (hb : Below w.heap.size w w') : SpI w' g b e := (hb.block g (lt_of_heap h)).trans h
theorem SpI.keep {w w' : World} {g : Nat} {b e : Int} {S : Nat → Prop} (h : SpI w g b e) (hb : Keep S w w') (hs : ¬ S g) : SpI w' g b e := (hb.block g (lt_of_heap h) hs).trans h
set_option maxRecDepth 100000 in
theorem isSize_is (n : Int) (q : Bool) (h : decide (1 ≤ n ∧ n ≤ 1099511627776) = q) (w : World) : Calls Tryd.prog 69 #[.int .i64 n] w fun r w' => r = .returned (.bool q) ∧ w' = w := by
  by_cases h0 : 1 ≤ n
  · by_cases h1 : n ≤ 1099511627776
    · have e := hid (show q = true by rw [← h]; simp [h0, h1])
      clear h
      go_enter Tryd.func69, Tryd.ntmps69
      go_wp2
      go_ret
      exact ⟨by rw [e.out]; rfl, rfl⟩
    · have e := hid (show q = false by rw [← h]; simp [h1])
      clear h
      go_enter Tryd.func69, Tryd.ntmps69
      go_wp2
      go_ret
      exact ⟨by rw [e.out]; rfl, rfl⟩
  · have e := hid (show q = false by rw [← h]; simp [h0])
    clear h
    go_enter Tryd.func69, Tryd.ntmps69
    go_wp2
    go_ret
    exact ⟨by rw [e.out]; rfl, rfl⟩
set_option maxRecDepth 100000 in
theorem isLeaf8_is (n i : Int) (q : Bool) (h : decide (0 ≤ i ∧ i < n) = q) (w : World) : Calls Tryd.prog 71 #[.int .i64 n, .int .i64 i] w fun r w' => r = .returned (.bool q) ∧ w' = w := by
  by_cases h0 : 0 ≤ i
  · by_cases h1 : i < n
    · have e := hid (show q = true by rw [← h]; simp [h0, h1])
      clear h
      go_enter Tryd.func71, Tryd.ntmps71
      go_wp2
      go_ret
      exact ⟨by rw [e.out]; rfl, rfl⟩
    · have e := hid (show q = false by rw [← h]; simp [h1])
      clear h
      go_enter Tryd.func71, Tryd.ntmps71
      go_wp2
      go_ret
      exact ⟨by rw [e.out]; rfl, rfl⟩
  · have e := hid (show q = false by rw [← h]; simp [h0])
    clear h
    go_enter Tryd.func71, Tryd.ntmps71
    go_wp2
    go_ret
    exact ⟨by rw [e.out]; rfl, rfl⟩
set_option maxRecDepth 100000 in
theorem slen_any (b e n : Int) (h : wrap64 (e - b) = n) (w : World) : Calls Tryd.prog 76 #[sg b e] w fun r w' => r = .returned (.int .i64 n) ∧ Below w.heap.size w w' := by
  have S0 := SpI.new w b e
  have c0 := S0.c0
  have c1 := S0.c1
  go_enter Tryd.func76, Tryd.ntmps76
  go_wp2
  go_ret
  exact ⟨by rw [← h]; rfl, (Below.refl _ _).alloc (Nat.le_refl _) _⟩
theorem slen_nat (b e : Nat) (hb : b ≤ e) (he : e ≤ 1099511627776) (w : World) : Calls Tryd.prog 76 #[sg b e] w fun r w' => r = .returned (.int .i64 ((e - b : Nat) : Int)) ∧ Below w.heap.size w w' :=
  slen_any b e _ (by unfold wrap64; omega) w
end Go.Proofs.YtmpaliocfikifaaDoor

namespace Go.Proofs.YtmpaliocfikifaaDoor
open Go.RowKit
theorem drewBelow8 {w w' : World} (h : Below w.drew.heap.size w.drew w') : Below w.heap.size w w' := (Below.refl _ w).drew.trans h
theorem sizeSp8 : (Tryd.prog.info? 67).map (·.size) = some 2 := by kernel_rfl
theorem sizeSp8' (a b : Value) : (Tryd.prog.info? 67).map (·.size) = some #[a, b].size := sizeSp8
theorem SpI.two {w : World} {g : Nat} {b e : Int} (h : SpI w g b e) (b' e' : Int) : SpI ((w.setCell ⟨g, 0, none⟩ (.int .i64 b')).setCell ⟨g, 1, none⟩ (.int .i64 e')) g b' e' :=
  heap_setCell_same _ g 1 _ _ _ (heap_setCell_same w g 0 _ _ _ h)
theorem SpI.far {w : World} {g : Nat} {b e : Int} (h : SpI w g b e) (k o : Nat) (v : Value) (hk : g ≠ k) : SpI (w.setCell ⟨k, o, none⟩ v) g b e :=
  (Below.heap_setCell w _ v g hk).trans h
set_option maxRecDepth 100000 in
set_option maxHeartbeats 4000000 in
theorem parts_at (b e m : Nat) (h2 : 2 ≤ e - b) (he : e ≤ 1099511627776) (hm : Hid (m = b + Tree.sp (e - b))) (w : World) :
    Calls Tryd.prog 92 #[sg b e] w fun r w' => r = .returned (.tuple #[sg b m, sg m e]) ∧ Below w.heap.size w w' := by
  have hb := bitLen_log _ ((((e - b : Nat) : Int) - 1).toNat) (Nat.le_refl _) (by omega) (by omega)
  have hL := log_le (x := (((e - b : Nat) : Int) - 1).toNat) (by omega) (by omega)
  have hc := lenU_any (((e - b : Nat) : Int) - 1) (by omega) (by omega)
  have hm2 : Hid (m = b + 2 ^ (((e - b : Nat) : Int) - 1).toNat.log2) := by
    unfold Hid
    rw [hm.out, Tree.sp_eq (by omega), show e - b - 1 = (((e - b : Nat) : Int) - 1).toNat from by omega]
  have hme : m < e := by rw [hm.out]; have := Tree.sp_lt (n := e - b) h2; omega
  rw [hb] at hc
  clear hb
  generalize (((e - b : Nat) : Int) - 1).toNat.log2 = L at *
  have hw1 : IntKind.i64.wrap (((e - b : Nat) : Int) - 1) = ((e - b : Nat) : Int) - 1 := by rw [IntKind.wrap_i64]; omega
  have hw2 : IntKind.u64.wrap (((e - b : Nat) : Int) - 1) = ((e - b : Nat) : Int) - 1 := by rw [IntKind.wrap_u64]; omega
  have hp := wrap_pow hL
  obtain ⟨N, hN⟩ : ∃ N : Nat, Hid (2 ^ L = N) := ⟨_, rfl⟩
  rw [hN.out] at hp hm2
  have hN1 : (2 : Int) ^ L = (N : Int) := by rw [← hN.out]; simp
  have hN2 : IntKind.i64.wrap (N : Int) = (N : Int) := by rw [IntKind.wrap_i64]; have := hm2.out; omega
  have hL1 : IntKind.i64.wrap (L : Int) = (L : Int) := by rw [IntKind.wrap_i64]; omega
  have hL2 : (L : Int) ≤ 64 := by omega
  have hL3 : (0 : Int) ≤ (L : Int) := by omega
  have hadd : IntKind.i64.wrap ((b : Int) + (N : Int)) = (m : Int) := by rw [hm2.out, IntKind.wrap_i64]; have := hm2.out; omega
  clear hp
  have i1 := fun w' => slen_nat b e (by omega) he w'
  obtain ⟨n, hn⟩ : ∃ n, Hid (e - b = n) := ⟨_, rfl⟩
  rw [hn.out] at hc hw1 hw2 i1
  have S0 := SpI.new w b e
  have B0 := (Below.refl w.heap.size w).alloc (Nat.le_refl _) (.cells #[Value.int .i64 (b : Int), .int .i64 (e : Int)] 67)
  go_enter Tryd.func92, Tryd.ntmps92
  go_wp2
  obtain ⟨w3, hw3⟩ : ∃ w3, Hid ((((w.alloc (.cells #[.int .i64 (b : Int), .int .i64 (e : Int)] 67)).alloc (.cells #[.int .i64 0, .int .i64 0] 67)).alloc (.cells #[.int .i64 0, .int .i64 0] 67)) = w3) := ⟨_, rfl⟩
  rw [hw3.out]
  have B3 : Hid (Below w.heap.size w w3) := by unfold Hid; rw [← hw3.out]; exact (B0.alloc (by rw [size_alloc]; omega) _).alloc (by rw [size_alloc, size_alloc]; omega) _
  have z3 : Hid (w3.heap.size = w.heap.size + 3) := by unfold Hid; rw [← hw3.out]; simp
  have R0 : Hid (SpI w3 w.heap.size b e) := by unfold Hid; rw [← hw3.out]; exact (S0.below ((Below.refl _ _).alloc (Nat.le_refl _) _)).below ((Below.refl _ _).alloc (Nat.le_refl _) _)
  have R1 : Hid (SpI w3 (w.heap.size + 1) 0 0) := by
    unfold Hid; rw [← hw3.out]
    have := SpI.new (w.alloc (.cells #[.int .i64 (b : Int), .int .i64 (e : Int)] 67)) 0 0
    rw [size_alloc] at this
    exact this.below ((Below.refl _ _).alloc (Nat.le_refl _) _)
  have R2 : Hid (SpI w3 (w.heap.size + 1 + 1) 0 0) := by
    unfold Hid; rw [← hw3.out]
    have := SpI.new ((w.alloc (.cells #[.int .i64 (b : Int), .int .i64 (e : Int)] 67)).alloc (.cells #[.int .i64 0, .int .i64 0] 67)) 0 0
    rw [size_alloc, size_alloc] at this
    exact this
  clear hw3 S0 B0
  have x0 := And.intro R0.out.c0 R0.out.c1
  go_region_held3 (fun w' => w'.cell? ⟨w.heap.size, 0, none⟩ = some (.int .i64 (b : Int)) ∧ w'.cell? ⟨w.heap.size, 1, none⟩ = some (.int .i64 (e : Int))) (first | exact x4 | exact x0) (first
    | (go_at_call 76; refine (i1 _).mono ?_; rintro r w4 ⟨rfl, h4⟩; have B4 := hid (drewBelow8 h4); have R4 := R0.out.below B4.out; have x4 := And.intro R4.c0 R4.c1)
    | (go_at_call 85; refine (hc _).mono ?_; rintro r w5 ⟨rfl, rfl⟩))
  go_wp2
  have B5 := hid (B3.out.trans (B4.out.mono B3.out.size))
  have T0 := hid (R0.out.below B4.out)
  have T1 := hid (R1.out.below B4.out)
  have T2 := hid (R2.out.below B4.out)
  clear R0 R1 R2 R4 x0 x4 B3 B4 z3
  have y0 := And.intro T0.out.c0 T0.out.c1
  have p1 : w5.drew.cell? ⟨w.heap.size + 1, 0, none⟩ = some (.int .i64 0) := T1.out.c0
  have p2 : w5.drew.cell? ⟨w.heap.size + 1, 1, none⟩ = some (.int .i64 0) := T1.out.c1
  have p3 : w5.drew.frozen? ⟨w.heap.size + 1, 0, none⟩ = false := T1.out.f0
  have p4 : w5.drew.frozen? ⟨w.heap.size + 1, 1, none⟩ = false := T1.out.f1
  have q1 : w5.drew.cell? ⟨w.heap.size + 1 + 1, 0, none⟩ = some (.int .i64 0) := T2.out.c0
  have q2 : w5.drew.cell? ⟨w.heap.size + 1 + 1, 1, none⟩ = some (.int .i64 0) := T2.out.c1
  have q3 : w5.drew.frozen? ⟨w.heap.size + 1 + 1, 0, none⟩ = false := T2.out.f0
  have q4 : w5.drew.frozen? ⟨w.heap.size + 1 + 1, 1, none⟩ = false := T2.out.f1
  have y1 : w5.drew.cell? ⟨w.heap.size, 0, none⟩ = some (.int .i64 (b : Int)) := T0.out.c0
  have y2 : w5.drew.cell? ⟨w.heap.size, 1, none⟩ = some (.int .i64 (e : Int)) := T0.out.c1
  have p5 : w5.cell? ⟨w.heap.size + 1, 0, none⟩ = some (.int .i64 0) := T1.out.c0
  have p6 : w5.cell? ⟨w.heap.size + 1, 1, none⟩ = some (.int .i64 0) := T1.out.c1
  have p7 : w5.frozen? ⟨w.heap.size + 1, 0, none⟩ = false := T1.out.f0
  have p8 : w5.frozen? ⟨w.heap.size + 1, 1, none⟩ = false := T1.out.f1
  have q5 : w5.cell? ⟨w.heap.size + 1 + 1, 0, none⟩ = some (.int .i64 0) := T2.out.c0
  have q6 : w5.cell? ⟨w.heap.size + 1 + 1, 1, none⟩ = some (.int .i64 0) := T2.out.c1
  have q7 : w5.frozen? ⟨w.heap.size + 1 + 1, 0, none⟩ = false := T2.out.f0
  have q8 : w5.frozen? ⟨w.heap.size + 1 + 1, 1, none⟩ = false := T2.out.f1
  have s1 : ¬ w.heap.size + 1 = w.heap.size := by omega
  have s2 : ¬ w.heap.size + 1 + 1 = w.heap.size := by omega
  go_region_held3 (fun w' => w'.cell? ⟨w.heap.size, 0, none⟩ = some (.int .i64 (b : Int)) ∧ w'.cell? ⟨w.heap.size, 1, none⟩ = some (.int .i64 (e : Int))) (first | exact y0 | go_keep) (fail)
  go_wp2
  have U1 := (T1.out.two (b : Int) (m : Int))
  have U1' := (U1.far (w.heap.size + 1 + 1) 0 (.int .i64 (m : Int)) (by omega)).far (w.heap.size + 1 + 1) 1 (.int .i64 (e : Int)) (by omega)
  have U2 := ((T2.out.far (w.heap.size + 1) 0 (.int .i64 (b : Int)) (by omega)).far (w.heap.size + 1) 1 (.int .i64 (m : Int)) (by omega)).two (m : Int) (e : Int)
  refine bodyPost_ret (results_row_row rfl _ _ (w.heap.size + 1) (w.heap.size + 1 + 1) 67 67 #[.int .i64 (b : Int), .int .i64 (m : Int)] #[.int .i64 (m : Int), .int .i64 (e : Int)] (0, 0) (0, 0) _ _ rfl U1' Tryd.underlying67 rfl sizeSp8 rfl U2 Tryd.underlying67 rfl sizeSp8) rfl ⟨rfl, ?_⟩
  exact (((((B5.out.setCell (p := ⟨w.heap.size + 1, 0, none⟩) (by show w.heap.size ≤ w.heap.size + 1; omega) _).setCell (p := ⟨w.heap.size + 1, 1, none⟩) (by show w.heap.size ≤ w.heap.size + 1; omega) _).setCell (p := ⟨w.heap.size + 1 + 1, 0, none⟩) (by show w.heap.size ≤ w.heap.size + 1 + 1; omega) _).setCell (p := ⟨w.heap.size + 1 + 1, 1, none⟩) (by show w.heap.size ≤ w.heap.size + 1 + 1; omega) _)).drew
theorem parts_any (b n : Nat) (h2 : 2 ≤ n) (he : b + n ≤ 1099511627776) (w : World) :
    Calls Tryd.prog 92 #[sg b ((b + n : Nat) : Int)] w fun r w' => r = .returned (.tuple #[sg b ((b + Tree.sp n : Nat) : Int), sg ((b + Tree.sp n : Nat) : Int) ((b + n : Nat) : Int)]) ∧ Below w.heap.size w w' :=
  parts_at b (b + n) (b + Tree.sp n) (by omega) he (by unfold Hid; rw [show b + n - b = n by omega]) w
end Go.Proofs.YtmpaliocfikifaaDoor

namespace Go.Proofs.YtmpaliocfikifaaDoor
open Go.RowKit
set_option maxRecDepth 100000 in
set_option maxHeartbeats 4000000 in
theorem toward_at (b e m i : Nat) (h2 : 2 ≤ e - b) (he : e ≤ 1099511627776) (hm : Hid (m = b + Tree.sp (e - b))) (w : World) :
    Calls Tryd.prog 91 #[sg b e, .int .i64 (i : Int)] w fun r w' => r = .returned (if i < m then sg b m else sg m e) ∧ Below w.heap.size w w' := by
  have i1 := fun w' => parts_at b e m h2 he hm w'
  have S0 := SpI.new w b e
  have c0 := S0.c0
  have c1 := S0.c1
  have B0 := hid (((Below.refl w.heap.size w).alloc (Nat.le_refl _) (.cells #[Value.int .i64 (b : Int), .int .i64 (e : Int)] 67)).alloc (by rw [size_alloc]; omega) (.cells #[Value.int .i64 0, .int .i64 0] 67))
  have R1 := SpI.new (w.alloc (.cells #[Value.int .i64 (b : Int), .int .i64 (e : Int)] 67)) 0 0
  rw [size_alloc] at R1
  have R1 := hid R1
  have z0 : Hid (((w.alloc (.cells #[Value.int .i64 (b : Int), .int .i64 (e : Int)] 67)).alloc (.cells #[Value.int .i64 0, .int .i64 0] 67)).heap.size = w.heap.size + 2) := by unfold Hid; simp
  by_cases hi : i < m
  · rw [if_pos hi]
    have hi' : (i : Int) < (m : Int) := by omega
    go_enter Tryd.func91, Tryd.ntmps91
    go_wp2_with (go_at_call 92; refine (i1 _).mono ?_; rintro r w1 ⟨rfl, hw1⟩; have T1 := R1.out.below hw1; have B1 := hid (B0.out.trans (hw1.mono B0.out.size)); have z1 := hid hw1.size; clear hw1; have T2 := (T1.below ((Below.refl _ w1).alloc (Nat.le_refl _) (.cells #[Value.int .i64 (b : Int), .int .i64 (m : Int)] 67))).below ((Below.refl _ _).alloc (Nat.le_refl _) (.cells #[Value.int .i64 (m : Int), .int .i64 (e : Int)] 67)); have d0 := T2.c0; have d1 := T2.c1; have g0 := T2.f0; have g1 := T2.f1; have T2 := hid T2; have T1 := hid T1)
    have U := T2.out.two (b : Int) (m : Int)
    refine bodyPost_ret (v := sg b m) (results_cell_row rfl _ _ (w.heap.size + 1) 67 #[.int .i64 (b : Int), .int .i64 (m : Int)] (0, 0) _ rfl U Tryd.underlying67 rfl sizeSp8) rfl ⟨rfl, ?_⟩
    have z1 := z1.out
    have z0 := z0.out
    exact ((((B1.out.alloc (by omega) _).alloc (by rw [size_alloc]; omega) _).setCell (p := ⟨w.heap.size + 1, 0, none⟩) (by show w.heap.size ≤ w.heap.size + 1; omega) _).setCell (p := ⟨w.heap.size + 1, 1, none⟩) (by show w.heap.size ≤ w.heap.size + 1; omega) _)
  · rw [if_neg hi]
    have hi' : ¬ (i : Int) < (m : Int) := by omega
    go_enter Tryd.func91, Tryd.ntmps91
    go_wp2_with (go_at_call 92; refine (i1 _).mono ?_; rintro r w1 ⟨rfl, hw1⟩; have T1 := R1.out.below hw1; have B1 := hid (B0.out.trans (hw1.mono B0.out.size)); have z1 := hid hw1.size; clear hw1; have T2 := (T1.below ((Below.refl _ w1).alloc (Nat.le_refl _) (.cells #[Value.int .i64 (b : Int), .int .i64 (m : Int)] 67))).below ((Below.refl _ _).alloc (Nat.le_refl _) (.cells #[Value.int .i64 (m : Int), .int .i64 (e : Int)] 67)); have d0 := T2.c0; have d1 := T2.c1; have g0 := T2.f0; have g1 := T2.f1; have T2 := hid T2; have T1 := hid T1)
    have U := T2.out.two (m : Int) (e : Int)
    refine bodyPost_ret (v := sg m e) (results_cell_row rfl _ _ (w.heap.size + 1) 67 #[.int .i64 (m : Int), .int .i64 (e : Int)] (0, 0) _ rfl U Tryd.underlying67 rfl sizeSp8) rfl ⟨rfl, ?_⟩
    have z1 := z1.out
    have z0 := z0.out
    exact ((((B1.out.alloc (by omega) _).alloc (by rw [size_alloc]; omega) _).setCell (p := ⟨w.heap.size + 1, 0, none⟩) (by show w.heap.size ≤ w.heap.size + 1; omega) _).setCell (p := ⟨w.heap.size + 1, 1, none⟩) (by show w.heap.size ≤ w.heap.size + 1; omega) _)
set_option maxRecDepth 100000 in
set_option maxHeartbeats 4000000 in
theorem beside_at (b e m i : Nat) (h2 : 2 ≤ e - b) (he : e ≤ 1099511627776) (hm : Hid (m = b + Tree.sp (e - b))) (w : World) :
    Calls Tryd.prog 77 #[sg b e, .int .i64 (i : Int)] w fun r w' => r = .returned (if i < m then sg m e else sg b m) ∧ Below w.heap.size w w' := by
  have i1 := fun w' => parts_at b e m h2 he hm w'
  have S0 := SpI.new w b e
  have c0 := S0.c0
  have c1 := S0.c1
  have B0 := hid (((Below.refl w.heap.size w).alloc (Nat.le_refl _) (.cells #[Value.int .i64 (b : Int), .int .i64 (e : Int)] 67)).alloc (by rw [size_alloc]; omega) (.cells #[Value.int .i64 0, .int .i64 0] 67))
  have R1 := SpI.new (w.alloc (.cells #[Value.int .i64 (b : Int), .int .i64 (e : Int)] 67)) 0 0
  rw [size_alloc] at R1
  have R1 := hid R1
  have z0 : Hid (((w.alloc (.cells #[Value.int .i64 (b : Int), .int .i64 (e : Int)] 67)).alloc (.cells #[Value.int .i64 0, .int .i64 0] 67)).heap.size = w.heap.size + 2) := by unfold Hid; simp
  by_cases hi : i < m
  · rw [if_pos hi]
    have hi' : (i : Int) < (m : Int) := by omega
    go_enter Tryd.func77, Tryd.ntmps77
    go_wp2_with (go_at_call 92; refine (i1 _).mono ?_; rintro r w1 ⟨rfl, hw1⟩; have T1 := R1.out.below hw1; have B1 := hid (B0.out.trans (hw1.mono B0.out.size)); have z1 := hid hw1.size; clear hw1; have T2 := (T1.below ((Below.refl _ w1).alloc (Nat.le_refl _) (.cells #[Value.int .i64 (b : Int), .int .i64 (m : Int)] 67))).below ((Below.refl _ _).alloc (Nat.le_refl _) (.cells #[Value.int .i64 (m : Int), .int .i64 (e : Int)] 67)); have d0 := T2.c0; have d1 := T2.c1; have g0 := T2.f0; have g1 := T2.f1; have T2 := hid T2; have T1 := hid T1)
    have U := T2.out.two (m : Int) (e : Int)
    refine bodyPost_ret (v := sg m e) (results_cell_row rfl _ _ (w.heap.size + 1) 67 #[.int .i64 (m : Int), .int .i64 (e : Int)] (0, 0) _ rfl U Tryd.underlying67 rfl sizeSp8) rfl ⟨rfl, ?_⟩
    have z1 := z1.out
    have z0 := z0.out
    exact ((((B1.out.alloc (by omega) _).alloc (by rw [size_alloc]; omega) _).setCell (p := ⟨w.heap.size + 1, 0, none⟩) (by show w.heap.size ≤ w.heap.size + 1; omega) _).setCell (p := ⟨w.heap.size + 1, 1, none⟩) (by show w.heap.size ≤ w.heap.size + 1; omega) _)
  · rw [if_neg hi]
    have hi' : ¬ (i : Int) < (m : Int) := by omega
    go_enter Tryd.func77, Tryd.ntmps77
    go_wp2_with (go_at_call 92; refine (i1 _).mono ?_; rintro r w1 ⟨rfl, hw1⟩; have T1 := R1.out.below hw1; have B1 := hid (B0.out.trans (hw1.mono B0.out.size)); have z1 := hid hw1.size; clear hw1; have T2 := (T1.below ((Below.refl _ w1).alloc (Nat.le_refl _) (.cells #[Value.int .i64 (b : Int), .int .i64 (m : Int)] 67))).below ((Below.refl _ _).alloc (Nat.le_refl _) (.cells #[Value.int .i64 (m : Int), .int .i64 (e : Int)] 67)); have d0 := T2.c0; have d1 := T2.c1; have g0 := T2.f0; have g1 := T2.f1; have T2 := hid T2; have T1 := hid T1)
    have U := T2.out.two (b : Int) (m : Int)
    refine bodyPost_ret (v := sg b m) (results_cell_row rfl _ _ (w.heap.size + 1) 67 #[.int .i64 (b : Int), .int .i64 (m : Int)] (0, 0) _ rfl U Tryd.underlying67 rfl sizeSp8) rfl ⟨rfl, ?_⟩
    have z1 := z1.out
    have z0 := z0.out
    exact ((((B1.out.alloc (by omega) _).alloc (by rw [size_alloc]; omega) _).setCell (p := ⟨w.heap.size + 1, 0, none⟩) (by show w.heap.size ≤ w.heap.size + 1; omega) _).setCell (p := ⟨w.heap.size + 1, 1, none⟩) (by show w.heap.size ≤ w.heap.size + 1; omega) _)
theorem toward_any (b e i : Nat) (h2 : 2 ≤ e - b) (he : e ≤ 1099511627776) (w : World) :
    Calls Tryd.prog 91 #[sg b e, .int .i64 (i : Int)] w fun r w' => r = .returned (sg (Tree.twd i (b, e)).1 (Tree.twd i (b, e)).2) ∧ Below w.heap.size w w' := by
  refine (toward_at b e _ i h2 he rfl w).mono ?_
  rintro r w' ⟨rfl, h⟩
  refine ⟨?_, h⟩
  unfold Tree.twd
  by_cases hi : i < b + Tree.sp (e - b)
  · simp only [if_pos hi]
  · simp only [if_neg hi]
theorem beside_any (b e i : Nat) (h2 : 2 ≤ e - b) (he : e ≤ 1099511627776) (w : World) :
    Calls Tryd.prog 77 #[sg b e, .int .i64 (i : Int)] w fun r w' => r = .returned (sg (Tree.osd i (b, e)).1 (Tree.osd i (b, e)).2) ∧ Below w.heap.size w w' := by
  refine (beside_at b e _ i h2 he rfl w).mono ?_
  rintro r w' ⟨rfl, h⟩
  refine ⟨?_, h⟩
  unfold Tree.osd
  by_cases hi : i < b + Tree.sp (e - b)
  · simp only [if_pos hi]
  · simp only [if_neg hi]
end Go.Proofs.YtmpaliocfikifaaDoor
