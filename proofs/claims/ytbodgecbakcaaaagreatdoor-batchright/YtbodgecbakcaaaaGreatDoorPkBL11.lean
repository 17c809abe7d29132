import Derived.Test.YtbodgecbakcaaaaGreatDoorPkBL9
import Derived.Test.YtbodgecbakcaaaaGreatDoorPkBP2
import Derived.Test.YtbodgecbakcaaaaGreatDoorPkSP4
import Derived.Deep.DeepCutAuto
/- Layer 12, the law: marks of two bytes; how long a path is -/
namespace Go.Proofs.YtbodgecbakcaaaaGreatDoor
open Go.RowKit Go.Shelf
namespace Bat
def mrk16 (i : Nat) : List UInt8 := [109, 97, 114, 107, UInt8.ofNat (i % 256), UInt8.ofNat (i / 256)]
theorem conv_two16 (x y : Nat) (hx : x < 256) (hy : y < 256) (w : World) : (convert 64 9 (.slice (some ⟨w.heap.size, 0, none⟩) 2 2)).run Tryz.prog (w.alloc (.cells #[.int .u8 (x : Int), .int .u8 (y : Int)] 5)) = .ok (sv [UInt8.ofNat x, UInt8.ofNat y]) (w.alloc (.cells #[.int .u8 (x : Int), .int .u8 (y : Int)] 5)) := by
  refine run_conv_bytes (P := Tryz.prog) _ 64 9 5 w.heap.size 0 2 2 [UInt8.ofNat x, UInt8.ofNat y] rfl Tryz.underlying64 Tryz.underlying5 Tryz.underlying9 ?_
  intro j v hv
  have hX := heap_alloc_new w (.cells #[.int .u8 (x : Int), .int .u8 (y : Int)] 5)
  match j, hv with
  | 0, hv =>
    have e : v = .int .u8 (x : Int) := by
      simp [bv] at hv
      rw [← hv]; congr 1; omega
    rw [e, cell_of_row _ _ _ _ _ _ hX]; rfl
  | 1, hv =>
    have e : v = .int .u8 (y : Int) := by
      simp [bv] at hv
      rw [← hv]; congr 1; omega
    rw [e, cell_of_row _ _ _ _ _ _ hX]; rfl
  | j + 2, hv => simp [bv] at hv
set_option maxRecDepth 100000 in
set_option maxHeartbeats 800000 in
theorem mark16_any (n : Nat) (hn : n ≤ 65535) (w : World) :
    Calls Tryz.prog 46 #[.int .i64 n] w fun e w' => ∃ m : ByteArray, e = .returned (.string m) ∧ m.data.toList = mrk16 n ∧ Below w.heap.size w w' := by
  have hcv := conv_two16 (n % 256) (n / 256) (by omega) (by omega) w
  have e0 : (n : Int) % 256 = ((n % 256 : Nat) : Int) := by omega
  have e1 : (n : Int) / 256 = ((n / 256 : Nat) : Int) := by omega
  have e2 : ((n / 256 : Nat) : Int) % 256 = ((n / 256 : Nat) : Int) := by omega
  have hm : mrk16 n = [109, 97, 114, 107, UInt8.ofNat (n % 256), UInt8.ofNat (n / 256)] := rfl
  rw [hm]
  clear hm
  generalize n % 256 = x at *
  generalize n / 256 = y at *
  rw [svS] at hcv
  go_enter Tryz.func46, Tryz.ntmps46
  go_wp2
  go_ret
  exact ⟨_, rfl, by simp [ByteArray.data_append], (Below.refl _ _).alloc (Nat.le_refl _) _⟩
theorem mark16_at (n : Nat) (hn : n ≤ 65535) (w : World) :
    Calls Tryz.prog 46 #[.int .i64 n] w fun e w' => e = .returned (sv (mrk16 n)) ∧ Below w.heap.size w w' := by
  refine (mark16_any n hn w).mono ?_
  rintro e w' ⟨m, rfl, hm, hb⟩
  refine ⟨?_, hb⟩
  rw [← hm]
  cases m
  rfl
theorem An.ps_few {n : Int} {cs : List Int} {H L : List (List UInt8)} {t : List UInt8} {ps : List (List (List UInt8))} (a : An n cs H L t ps) : ps.length ≤ 256 ∧ ∀ p ∈ ps, p.length ≤ 1000 := by
  by_cases h : knE n cs H L = 0
  · obtain ⟨m, is, val, rfl, rfl, hb, V, x1, x2, rfl, rfl⟩ := a.ok h
    have n1 := hb.n1
    have n2 := hb.n2
    have l2 := hb.l2
    have hlt := ix_lt hb
    rw [ix_len] at l2
    refine ⟨by unfold paths; rw [List.length_map]; omega, fun p hp => ?_⟩
    unfold paths at hp
    obtain ⟨i, hi, rfl⟩ := List.mem_map.1 hp
    rw [List.length_map, Tree.pthF_len m 0 m i (Nat.le_refl _) (Nat.zero_le _)]
    exact d_len12 (by omega) (by have := hlt i hi; omega)
  · rw [(a.bad h).2]
    exact ⟨by simp, fun p hp => by simp at hp⟩
end Bat
end Go.Proofs.YtbodgecbakcaaaaGreatDoor

namespace Go.Proofs.YtbodgecbakcaaaaGreatDoor
open Go.RowKit
theorem Own.setT {w : World} {base g cap : Nat} {cs : List Value} (h : Own w base (.slice (some ⟨g, 0, none⟩) cs.length cap) cs) (k : Nat) (hk : k < cs.length) (x : Value) :
    Own (w.setCell ⟨g, k, none⟩ x) base (.slice (some ⟨g, 0, none⟩) (cs.set k x).length cap) (cs.set k x) := by
  rcases h with ⟨h, _⟩ | ⟨g', cap', h, h1, h2, h3, h4, h5, h6⟩
  · cases h
  · injection h with e1 e2 e3
    injection e1 with e1
    injection e1 with e1
    subst e1 e3
    refine .inr ⟨g, cap, rfl, h1, by rw [List.length_set]; exact h2, h3, fun j v hv => ?_, fun j hj => ?_, by simpa [World.setCell] using h6⟩
    · rw [Nat.zero_add]
      rw [List.getElem?_set] at hv
      split at hv
      · rename_i e
        subst e
        cases hv
        have := (h5 k (by omega)).1
        rw [Nat.zero_add] at this
        exact World.cell?_setCell_same' _ _ _ this
      · rename_i e
        have := h4 j v hv
        rw [Nat.zero_add] at this
        exact (World.cell?_setCell_other _ _ _ _ (by intro h; injection h; omega)).trans this
    · have := h5 j hj
      rw [Nat.zero_add] at this ⊢
      refine ⟨?_, by rw [World.frozen?_setCell]; exact this.2⟩
      by_cases e : j = k
      · subst e
        rw [World.cell?_setCell_same' _ _ _ this.1]; rfl
      · rw [World.cell?_setCell_other _ _ _ _ (by intro h; injection h; omega)]
        exact this.1
theorem append_free (w : World) (base : Nat) (vf : Value) (us : List Value) (hown : Own w base vf us) (h1c : ∀ u ∈ us, u.oneCell' = true) (h0 : 0 < us.length) (hlen : us.length ≤ 1000000) :
    ∃ v' w', (Builtin.append_ #[41, 41] 41 #[.slice none 0 0, vf]).run Tryz.prog w = .ok v' w' ∧ Own w' w.heap.size v' us ∧ Below w.heap.size w w' := by
  obtain ⟨i0, hi, hz0, hz1, hz2⟩ := info_parts infoLS
  have hsrc : Src Tryz.prog 1 41 vf us.length us w := by
    rcases hown with ⟨rfl, h⟩ | ⟨g, cap, rfl, h1, h2, h3, h4, h5, h6⟩
    · subst h; simp at h0
    · exact Src.ofSlice w Tryz.underlying41 ⟨g, 0, none⟩ us.length cap us (by rw [Nat.mul_one]) (fun j u hj => by rw [Addr.add_mid]; exact h4 j u hj) h1c
  obtain ⟨v', w', h1, h2, h3, h4⟩ := run_append_O (P := Tryz.prog) w w.heap.size 41 41 41 23 i0 (.slice none 0 0) Tryz.underlying41 hi hz0 hz1 rfl (.slice none 0 0) [] (Own.nil _ _) vf us.length us hsrc
    (by rw [hz2]; simp; omega) (by rw [maxLen]; simp; omega) (Nat.le_refl _) (fun _ => h0)
  exact ⟨v', w', h1, by simpa using h2, Below.ofGrown h3 (Own.nil w w.heap.size).ge (Nat.le_refl _)⟩
structure M2 (w : World) (X base : Nat) (vl : Value) (us : List Value) (Ls : List (List (List UInt8))) : Prop where
  row : w.heap[X]? = some (.cells #[.slice none 0 0, .slice none 0 0, vl, .slice none 0 0, .slice none 0 0] 51 (0, 0))
  lists : Own w base vl us
  len : Ls.length = us.length
  dX : ∀ k, vl.ownBlock = some k → k ≠ X
  own : ∀ (i : Nat) (u : Value) (L : List (List UInt8)), us[i]? = some u → Ls[i]? = some L → Own w base u (svs L) ∧ L.length ≤ 1000000
  ap : ∀ (i : Nat) (u : Value) (g : Nat), us[i]? = some u → u.ownBlock = some g → g ≠ X ∧ vl.ownBlock ≠ some g
  di : ∀ (i j : Nat) (u v : Value) (g : Nat), us[i]? = some u → us[j]? = some v → u.ownBlock = some g → v.ownBlock = some g → i = j
theorem M2.below {w w' : World} {X base : Nat} {vl : Value} {us : List Value} {Ls : List (List (List UInt8))} (h : M2 w X base vl us Ls) (hb : Below w.heap.size w w') : M2 w' X base vl us Ls where
  row := (hb.block X (lt_of_heap h.row)).trans h.row
  lists := h.lists.below hb (Nat.le_refl _)
  len := h.len
  dX := h.dX
  own := fun i u L h1 h2 => ⟨(h.own i u L h1 h2).1.below hb (Nat.le_refl _), (h.own i u L h1 h2).2⟩
  ap := h.ap
  di := h.di
theorem M2.set {w : World} {X base : Nat} {vl : Value} {us : List Value} {Ls : List (List (List UInt8))} (h : M2 w X base vl us Ls) {i g n c k : Nat} {L : List (List UInt8)} (hu : us[i]? = some (.slice (some ⟨g, 0, none⟩) n c)) (hL : Ls[i]? = some L) (hk : k < L.length) (m : List UInt8) :
    M2 (w.setCell ⟨g, k, none⟩ (sv m)) X base vl us (Ls.set i (L.set k m)) := by
  have hap := h.ap i _ g hu rfl
  have ho := (h.own i _ L hu hL).1
  have hset : ∀ b, b ≠ g → (w.setCell ⟨g, k, none⟩ (sv m)).heap[b]? = w.heap[b]? := fun b hb => Below.heap_setCell w _ _ b hb
  have hsz : (w.setCell ⟨g, k, none⟩ (sv m)).heap.size = w.heap.size := by simp [World.setCell]
  refine ⟨(hset X (Ne.symm hap.1)).trans h.row, h.lists.same (by rw [hsz]; exact Nat.le_refl _) fun b hb => hset b fun e => hap.2 (e ▸ hb), by rw [List.length_set]; exact h.len, h.dX, fun j u L' h1 h2 => ?_, h.ap, h.di⟩
  by_cases e : j = i
  · subst e
    rw [hu] at h1
    obtain rfl := Option.some.inj h1
    have hj : j < Ls.length := (List.getElem?_eq_some_iff.1 hL).1
    rw [List.getElem?_set_self hj] at h2
    obtain rfl := Option.some.inj h2
    have hn : n = (svs L).length := by
      rcases own_cases ho with ⟨e, _⟩ | ⟨g', c', e, _⟩
      · cases e
      · injection e
    have h3 := Own.setT (cs := svs L) (by rw [← hn]; exact ho) k (by rw [svs_length]; exact hk) (sv m)
    have e1 : (svs L).set k (sv m) = svs (L.set k m) := by simp [svs, List.map_set]
    rw [e1] at h3
    have e2 : (svs (L.set k m)).length = n := by rw [hn, svs_length, svs_length, List.length_set]
    rw [e2] at h3
    exact ⟨h3, by rw [List.length_set]; exact (h.own j _ L hu hL).2⟩
  · rw [List.getElem?_set_ne (Ne.symm e)] at h2
    refine ⟨(h.own j u L' h1 h2).1.same (by rw [hsz]; exact Nat.le_refl _) fun b hb => hset b fun e' => ?_, (h.own j u L' h1 h2).2⟩
    subst e'
    exact e (h.di j i u _ b h1 hu hb rfl)
end Go.Proofs.YtbodgecbakcaaaaGreatDoor

namespace Go.Proofs.YtbodgecbakcaaaaGreatDoor
open Go.RowKit
theorem En.of {μ μ' : Mu} {i : Nat} {s : Value} (e : En μ i s) (h : ∀ g ℓ, μ g = some (i, ℓ) → μ' g = some (i, ℓ)) : En μ' i s := by
  rcases e with rfl | ⟨g, n, c, ℓ, rfl, h1, h2, h3⟩
  · exact .inl rfl
  · exact .inr ⟨g, n, c, ℓ, rfl, h1, h2, h g ℓ h3⟩
theorem Xs.below {w w' : World} {base : Nat} {x : Value} {i ℓ : Nat} {μ : Mu} (h : Xs w base x i ℓ μ) (hb : Below w.heap.size w w') : Xs w' base x i ℓ μ := ⟨h.own.below hb (Nat.le_refl _), h.mrkd, h.en⟩
theorem Xs.other {w w' : World} {base : Nat} {x x' u : Value} {i j ℓ n : Nat} {μ μ' : Mu} (hu : Xs w base u j n μ) (hx : Xs w base x i ℓ μ) (hne : j ≠ i) (hg : Grow w w' x x') (hm : ∀ g k m, μ g = some (k, m) → k ≠ i → μ' g = some (k, m)) : Xs w' base u j n μ' := by
  refine ⟨hu.own.same hg.size fun g hgu => hg.old g (hu.own.lt g hgu) fun e => ?_, fun g hgu => hm g j n (hu.mrkd g hgu) hne, hu.en.of fun g m h => hm g j m h hne⟩
  have h1 := hx.mrkd g e
  rw [hu.mrkd g hgu] at h1
  injection h1 with h1
  exact hne (congrArg Prod.fst h1)
theorem Xs.book {w w' : World} {X base : Nat} {vl vg vh : Value} {us GS : List Value} {HS : List Nat} {μ : Mu} (hs : St w X base vl vg vh us GS HS μ) {x : Value} {i ℓ : Nat} (hx : Xs w base x i ℓ μ) {v v' : Value} (hv : v = vg ∨ v = vh) (hg : Grow w w' v v') (o : Nat) (y : Value) : Xs (w'.setCell ⟨X, o, none⟩ y) base x i ℓ μ := by
  refine ⟨hx.own.same (by simp [World.setCell]; exact hg.size) fun g hgx => ?_, hx.mrkd, hx.en⟩
  have hB := (hs.mkd g i ℓ (hx.mrkd g hgx)).2.2.1
  rw [Below.heap_setCell w' _ y g (fun e => hB (.inl e))]
  refine hg.old g (hx.own.lt g hgx) fun e => ?_
  rcases hv with rfl | rfl
  · exact hB (.inr (.inr (.inl e)))
  · exact hB (.inr (.inr (.inr e)))
theorem St.c2 {w : World} {X base : Nat} {vl vg vh : Value} {us GS : List Value} {HS : List Nat} {μ : Mu} (h : St w X base vl vg vh us GS HS μ) : w.cell? ⟨X, 2, none⟩ = some vl := by rw [cell_of_row _ _ _ _ _ _ h.row]; rfl
theorem St.c3 {w : World} {X base : Nat} {vl vg vh : Value} {us GS : List Value} {HS : List Nat} {μ : Mu} (h : St w X base vl vg vh us GS HS μ) : w.cell? ⟨X, 3, none⟩ = some vg := by rw [cell_of_row _ _ _ _ _ _ h.row]; rfl
theorem St.c4 {w : World} {X base : Nat} {vl vg vh : Value} {us GS : List Value} {HS : List Nat} {μ : Mu} (h : St w X base vl vg vh us GS HS μ) : w.cell? ⟨X, 4, none⟩ = some vh := by rw [cell_of_row _ _ _ _ _ _ h.row]; rfl
theorem St.field {w w' : World} {X base : Nat} {vl vg vh : Value} {us GS : List Value} {HS : List Nat} {μ : Mu} (h : St w X base vl vg vh us GS HS μ) {v v' : Value} (hv : v = vg ∨ v = vh) (hg : Grow w w' v v') : w'.cell? ⟨X, 3, none⟩ = some vg ∧ w'.frozen? ⟨X, 3, none⟩ = false ∧ w'.cell? ⟨X, 4, none⟩ = some vh ∧ w'.frozen? ⟨X, 4, none⟩ = false := by
  have hne : v.ownBlock ≠ some X := fun e => by
    rcases hv with rfl | rfl
    · exact h.dX X (.inr (.inl e)) rfl
    · exact h.dX X (.inr (.inr e)) rfl
  have r := (hg.old X (lt_of_heap h.row) hne).trans h.row
  exact ⟨by rw [cell_of_row _ _ _ _ _ _ r]; rfl, frozen_of_row _ _ _ _ _ r, by rw [cell_of_row _ _ _ _ _ _ r]; rfl, frozen_of_row _ _ _ _ _ r⟩
theorem ins_length (l : List Nat) : (ins l).length = l.length := by simp [ins]
theorem alloc_cell {w : World} {X : Nat} (hX : X < w.heap.size) (o : Nat) (ob : Obj) : (w.alloc ob).cell? ⟨X, o, none⟩ = w.cell? ⟨X, o, none⟩ := World.cell?_of_block (w := w) (Below.heap_alloc w ob X hX)
end Go.Proofs.YtbodgecbakcaaaaGreatDoor

namespace Go.Proofs.YtbodgecbakcaaaaGreatDoor
open Go.RowKit
theorem heapCell {w w' : World} (e : w'.heap = w.heap) (p : Addr) : w'.cell? p = w.cell? p := World.cell?_of_block (w := w) (by rw [e])
theorem ownSome {w : World} {base : Nat} {v : Value} {cs : List Value} (h : Own w base v cs) (h0 : 0 < cs.length) : ∃ g c, v = .slice (some ⟨g, 0, none⟩) cs.length c ∧ base ≤ g ∧ g < w.heap.size := by
  rcases h with ⟨_, rfl⟩ | ⟨g, c, rfl, h1, _, _, _, _, h6⟩
  · simp at h0
  · exact ⟨g, c, rfl, h1, h6⟩
theorem ownShape {w : World} {base : Nat} {v : Value} {cs : List Value} (h : Own w base v cs) : ∃ a c, v = .slice a cs.length c := by
  rcases h with ⟨rfl, rfl⟩ | ⟨g, c, rfl, _⟩
  · exact ⟨none, 0, rfl⟩
  · exact ⟨_, c, rfl⟩
theorem ownFree {w : World} {base : Nat} {v : Value} {cs : List Value} (h : Own w base v cs) {g : Nat} (hg : v.ownBlock = some g) {j : Nat} {x : Value} (hj : cs[j]? = some x) : w.frozen? ⟨g, j, none⟩ = false := by
  rcases h with ⟨rfl, rfl⟩ | ⟨g', c, rfl, _, h2, _, _, h5, _⟩
  · simp at hj
  · cases hg
    have hl := (List.getElem?_eq_some_iff.1 hj).1
    have := (h5 j (by omega)).2
    rwa [Nat.zero_add] at this
theorem take_set (L : List (List UInt8)) (kk : Nat) (h : kk < L.length) (m : List UInt8) (ht : L.take kk = List.replicate kk m) : (L.set kk m).take (kk + 1) = List.replicate (kk + 1) m := by
  rw [List.take_add_one, List.getElem?_set_self h, List.take_set_of_le (Nat.le_refl _), ht, List.replicate_succ']
  rfl
theorem svs_more (n : Nat) (m : List UInt8) : svs (List.replicate n m) ++ [sv m] = svs (List.replicate (n + 1) m) := by
  rw [List.replicate_succ']
  simp [svs]
theorem ownAt {w : World} {base : Nat} {L : List (List UInt8)} {a : Option Addr} {n c : Nat} (h : Own w base (.slice a n c) (svs L)) : At w a L := by
  obtain ⟨a', c', e, hA, _⟩ := h.at
  injection e with e1
  rw [e1]; exact hA
end Go.Proofs.YtbodgecbakcaaaaGreatDoor

namespace Go.Proofs.YtbodgecbakcaaaaGreatDoor
open Go.RowKit
def Sd (X : Nat) (us : List Value) (k : Nat) : Prop := k = X ∨ ∃ (i : Nat) (u : Value), us[i]? = some u ∧ u.ownBlock = some k
structure Kq (S : Nat → Prop) (w w' : World) (vg vh x : Value) : Prop where
  keep : Keep S w w'
  g : ∀ k, vg.ownBlock = some k → w.heap.size ≤ k
  h : ∀ k, vh.ownBlock = some k → w.heap.size ≤ k
  x : ∀ k, x.ownBlock = some k → S k ∨ w.heap.size ≤ k
section
variable {S : Nat → Prop} {w w1 w2 : World} {vg vh x v' : Value}
theorem Kq.size (h : Kq S w w1 vg vh x) : w.heap.size ≤ w1.heap.size := h.keep.size
theorem Kq.none (h : Kq S w w1 vg vh x) : Kq S w w1 vg vh (.slice none 0 0) := ⟨h.keep, h.g, h.h, fun k e => by cases e⟩
theorem Kq.below (h : Kq S w w1 vg vh x) (hb : Below w1.heap.size w1 w2) : Kq S w w2 vg vh x := ⟨h.keep.trans (Keep.ofBelow (S := S) hb) (fun _ _ e => e), h.g, h.h, h.x⟩
theorem Grow.new {v : Value} (hg : Grow w1 w2 v v') {k : Nat} (hk : v'.ownBlock = some k) : v.ownBlock = some k ∨ w1.heap.size ≤ k := by
  rcases hg.alt with e | ⟨e, _⟩
  · exact .inl (e ▸ hk)
  · exact .inr (e k hk)
theorem Grow.keepQ {v : Value} (hg : Grow w1 w2 v v') : Keep (fun k => v.ownBlock = some k) w1 w2 := ⟨hg.os, hg.tape, hg.output, hg.size, hg.old⟩
theorem Kq.growX (h : Kq S w w1 vg vh x) (hg : Grow w1 w2 x v') : Kq S w w2 vg vh v' := by
  refine ⟨h.keep.trans hg.keepQ fun j hj e => ?_, h.g, h.h, fun k hk => ?_⟩
  · rcases h.x j e with e | e
    · exact e
    · omega
  · rcases hg.new hk with e | e
    · exact h.x k e
    · exact .inr (Nat.le_trans h.size e)
theorem Kq.growG (h : Kq S w w1 vg vh x) (hg : Grow w1 w2 vg v') {X : Nat} (hX : S X) (o : Nat) (y : Value) : Kq S w (w2.setCell ⟨X, o, .none⟩ y) v' vh x := by
  refine ⟨(h.keep.trans hg.keepQ fun j hj e => ?_).trans (Keep.ofSet (S := S) w2 X o y hX) (fun _ _ e => e), fun k hk => ?_, h.h, h.x⟩
  · have := h.g j e; omega
  · rcases hg.new hk with e | e
    · exact h.g k e
    · exact Nat.le_trans h.size e
theorem Kq.growH (h : Kq S w w1 vg vh x) (hg : Grow w1 w2 vh v') {X : Nat} (hX : S X) (o : Nat) (y : Value) : Kq S w (w2.setCell ⟨X, o, .none⟩ y) vg v' x := by
  refine ⟨(h.keep.trans hg.keepQ fun j hj e => ?_).trans (Keep.ofSet (S := S) w2 X o y hX) (fun _ _ e => e), h.g, fun k hk => ?_, h.x⟩
  · have := h.h j e; omega
  · rcases hg.new hk with e | e
    · exact h.h k e
    · exact Nat.le_trans h.size e
end
end Go.Proofs.YtbodgecbakcaaaaGreatDoor
