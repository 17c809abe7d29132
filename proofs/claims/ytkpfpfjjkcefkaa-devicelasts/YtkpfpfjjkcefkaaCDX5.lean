import Derived.Test.YtkpfpfjjkcefkaaCDX4
namespace Go.Proofs.Ytkpfpfjjkcefkaa
open Go.RowKit Go.Maps

/-- the law's state: the device, and the law's own two lists, in blocks of their own -/
structure Ls (w0 w : World) (a g b hl hn : Nat) (Ld : List (List UInt8)) (p : Nat → Option (List UInt8)) (L N : List (List UInt8)) (left : Nat) (dead : Bool) : Prop where
  dv : Dv w a g b Ld p left dead
  rl : Row6 w hl L
  rn : Row6 w hn N
  l6 : L.length = 6
  n6 : N.length = 6
  d6 : Ld.length = 6
  al : a < hl
  gl : g < hl
  bl : b < hl
  ln : hl < hn
  ba : w0.heap.size ≤ a
  bg : w0.heap.size ≤ g
  bb : w0.heap.size ≤ b
  bel : Below w0.heap.size w0 w
theorem Row6.lt {w : World} {H : Nat} {L : List (List UInt8)} (h : Row6 w H L) : H < w.heap.size := lt_of_heap h
theorem Ls.kp {w0 w w' : World} {a g b hl hn : Nat} {Ld L N : List (List UInt8)} {p : Nat → Option (List UInt8)} {left : Nat} {dead : Bool} (h : Ls w0 w a g b hl hn Ld p L N left dead) {Ld' : List (List UInt8)} {p' : Nat → Option (List UInt8)} {left' : Nat} {dead' : Bool}
    (hD : Dv w' a g b Ld' p' left' dead') (hl' : Ld'.length = 6) (hk : Kp a g b w w') : Ls w0 w' a g b hl hn Ld' p' L N left' dead' where
  dv := hD
  rl := h.rl.keep (hk.block hl h.rl.lt (by have := h.al; omega) (by have := h.gl; omega) (by have := h.bl; omega))
  rn := h.rn.keep (hk.block hn h.rn.lt (by have := h.al; have := h.ln; omega) (by have := h.gl; have := h.ln; omega) (by have := h.bl; have := h.ln; omega))
  l6 := h.l6
  n6 := h.n6
  d6 := hl'
  al := h.al
  gl := h.gl
  bl := h.bl
  ln := h.ln
  ba := h.ba
  bg := h.bg
  bb := h.bb
  bel := h.bel.trans (hk.below h.ba h.bg h.bb h.bel.size)
theorem Ls.below {w0 w w' : World} {a g b hl hn : Nat} {Ld L N : List (List UInt8)} {p : Nat → Option (List UInt8)} {left : Nat} {dead : Bool} (h : Ls w0 w a g b hl hn Ld p L N left dead) (hb : Below w.heap.size w w') : Ls w0 w' a g b hl hn Ld p L N left dead :=
  h.kp (h.dv.below hb (Nat.le_refl _)) h.d6 (.ofBelow hb)
theorem Ls.setL {w0 w : World} {a g b hl hn : Nat} {Ld L N : List (List UInt8)} {p : Nat → Option (List UInt8)} {left : Nat} {dead : Bool} (h : Ls w0 w a g b hl hn Ld p L N left dead) (k : Nat) (x : List UInt8) :
    Ls w0 (w.setCell ⟨hl, k, none⟩ (.string ⟨x.toArray⟩)) a g b hl hn Ld p (L.set k x) N left dead where
  dv := h.dv.kept (by simp [World.setCell]) (heap_setCell_other w ⟨hl, k, none⟩ a _ (by have := h.al; show a ≠ hl; omega)) (heap_setCell_other w ⟨hl, k, none⟩ g _ (by have := h.gl; show g ≠ hl; omega)) (heap_setCell_other w ⟨hl, k, none⟩ b _ (by have := h.bl; show b ≠ hl; omega))
  rl := h.rl.set k x
  rn := h.rn.keep (heap_setCell_other w ⟨hl, k, none⟩ hn _ (by have := h.ln; show hn ≠ hl; omega))
  l6 := by rw [List.length_set]; exact h.l6
  n6 := h.n6
  d6 := h.d6
  al := h.al
  gl := h.gl
  bl := h.bl
  ln := h.ln
  ba := h.ba
  bg := h.bg
  bb := h.bb
  bel := h.bel.setCell (p := ⟨hl, k, none⟩) (by have := h.al; have := h.ba; show w0.heap.size ≤ hl; omega) _
theorem Ls.setN {w0 w : World} {a g b hl hn : Nat} {Ld L N : List (List UInt8)} {p : Nat → Option (List UInt8)} {left : Nat} {dead : Bool} (h : Ls w0 w a g b hl hn Ld p L N left dead) (k : Nat) (x : List UInt8) :
    Ls w0 (w.setCell ⟨hn, k, none⟩ (.string ⟨x.toArray⟩)) a g b hl hn Ld p L (N.set k x) left dead where
  dv := h.dv.kept (by simp [World.setCell]) (heap_setCell_other w ⟨hn, k, none⟩ a _ (by have := h.al; have := h.ln; show a ≠ hn; omega)) (heap_setCell_other w ⟨hn, k, none⟩ g _ (by have := h.gl; have := h.ln; show g ≠ hn; omega)) (heap_setCell_other w ⟨hn, k, none⟩ b _ (by have := h.bl; have := h.ln; show b ≠ hn; omega))
  rl := h.rl.keep (heap_setCell_other w ⟨hn, k, none⟩ hl _ (by have := h.ln; show hl ≠ hn; omega))
  rn := h.rn.set k x
  l6 := h.l6
  n6 := by rw [List.length_set]; exact h.n6
  d6 := h.d6
  al := h.al
  gl := h.gl
  bl := h.bl
  ln := h.ln
  ba := h.ba
  bg := h.bg
  bb := h.bb
  bel := h.bel.setCell (p := ⟨hn, k, none⟩) (by have := h.al; have := h.ba; have := h.ln; show w0.heap.size ≤ hn; omega) _
theorem Row6.at6 {w : World} {H : Nat} {L : List (List UInt8)} (h : Row6 w H L) {j : Nat} (hj : j < L.length) : w.cell? ⟨H, j, none⟩ = some (.string ⟨(L[j]!).toArray⟩) := by rw [at_get hj]; exact h.cell hj
/-- what the loops are: settled -/
def Lq (w0 w : World) (a g b hl hn : Nat) : Prop := ∃ L N left dead, Ls w0 w a g b hl hn L (pnl N) L N left dead
theorem Ls.start {w0 w : World} {a g b left : Nat} {z : List UInt8} (h : Dv w a g b (List.replicate 6 z) (fun _ => none) left false) (ha : w0.heap.size ≤ a) (hg : w0.heap.size ≤ g) (hb : w0.heap.size ≤ b) (hB : Below w0.heap.size w0 w) :
    Ls w0 ((w.alloc (.cells (svs (List.replicate 6 [])).toArray 44)).alloc (.cells (svs (List.replicate 6 [])).toArray 44)) a g b w.heap.size (w.heap.size + 1) (List.replicate 6 z) (fun _ => none) (zrK z 0) (List.replicate 6 []) left false where
  dv := h.below (((Below.refl w.heap.size w).alloc (Nat.le_refl _) _).alloc (by rw [size_alloc]; omega) _) (Nat.le_refl _)
  rl := by
    rw [zrK_zero]
    refine Row6.keep (heap_alloc_new w _) ?_
    exact ((Below.refl (w.heap.size + 1) (w.alloc (.cells (svs (List.replicate 6 [])).toArray 44))).alloc (by rw [size_alloc]; omega) _).block _ (by omega)
  rn := by
    have := heap_alloc_new (w.alloc (.cells (svs (List.replicate 6 [])).toArray 44)) (.cells (svs (List.replicate 6 [])).toArray 44)
    rw [show (w.alloc (.cells (svs (List.replicate 6 [])).toArray 44)).heap.size = w.heap.size + 1 from size_alloc _ _] at this
    exact this
  l6 := zrK_len z (by omega)
  n6 := by simp
  d6 := by simp
  al := h.al
  gl := h.gl
  bl := h.bl
  ln := by omega
  ba := ha
  bg := hg
  bb := hb
  bel := (hB.alloc hB.size _).alloc (by have := hB.size; rw [size_alloc]; omega) _
theorem Ls.off {w0 w w' : World} {a g b hl hn H : Nat} {Ld L N : List (List UInt8)} {p : Nat → Option (List UInt8)} {left : Nat} {dead : Bool} (h : Ls w0 w a g b hl hn Ld p L N left dead) (hk : Kp H H H w w') (hH : hn < H) : Ls w0 w' a g b hl hn Ld p L N left dead where
  dv := h.dv.kept hk.size (hk.block a h.dv.al (by have := h.al; have := h.ln; omega) (by have := h.al; have := h.ln; omega) (by have := h.al; have := h.ln; omega)) (hk.block g h.dv.gl (by have := h.gl; have := h.ln; omega) (by have := h.gl; have := h.ln; omega) (by have := h.gl; have := h.ln; omega)) (hk.block b h.dv.bl (by have := h.bl; have := h.ln; omega) (by have := h.bl; have := h.ln; omega) (by have := h.bl; have := h.ln; omega))
  rl := h.rl.keep (hk.block hl h.rl.lt (by have := h.ln; omega) (by have := h.ln; omega) (by have := h.ln; omega))
  rn := h.rn.keep (hk.block hn h.rn.lt (by omega) (by omega) (by omega))
  l6 := h.l6
  n6 := h.n6
  d6 := h.d6
  al := h.al
  gl := h.gl
  bl := h.bl
  ln := h.ln
  ba := h.ba
  bg := h.bg
  bb := h.bb
  bel := h.bel.trans (hk.below (by have := h.ba; have := h.al; have := h.ln; omega) (by have := h.ba; have := h.al; have := h.ln; omega) (by have := h.ba; have := h.al; have := h.ln; omega) h.bel.size)
/-- a list of writes in memory -/
def AtW (w : World) (B : Nat) (al : Option Addr) (l : List (Nat × List UInt8)) : Prop := ∀ j, (hj : j < l.length) → ∃ g o, al = some ⟨g, o, none⟩ ∧ g < B ∧ w.cell? ⟨g, o + j * 2, none⟩ = some (.int .i64 ((l[j]).1 : Int)) ∧ w.cell? ⟨g, o + j * 2 + 1, none⟩ = some (.string ⟨(l[j]).2.toArray⟩)
theorem wcs_at : ∀ (l : List (Nat × List UInt8)) (j : Nat) (hj : j < l.length), (wcs l)[j * 2]? = some (.int .i64 ((l[j]).1 : Int)) ∧ (wcs l)[j * 2 + 1]? = some (.string ⟨(l[j]).2.toArray⟩) := by
  intro l
  induction l with
  | nil => intro j hj; simp at hj
  | cons x l ih =>
    intro j hj
    rcases j with _ | j
    · exact ⟨rfl, rfl⟩
    · have := ih j (by simpa using hj)
      rw [show (j + 1) * 2 = j * 2 + 1 + 1 by omega]
      exact this
theorem OwnW.atW {w : World} {v : Value} {l : List (Nat × List UInt8)} (h : OwnW w v l) : ∃ al cap, v = .slice al l.length cap ∧ cap ≤ maxLen ∧ AtW w w.heap.size al l := by
  rcases h with ⟨rfl, e, _⟩ | ⟨g, cap, rfl, h1, h2, h3, h4, h5, h6⟩
  · obtain rfl : l = [] := List.length_eq_zero_iff.1 e
    exact ⟨none, 0, rfl, Nat.zero_le _, fun j hj => by simp at hj⟩
  · exact ⟨_, cap, rfl, h2, fun j hj => ⟨g, 0, rfl, h6, by rw [Nat.zero_add]; have := h4 _ _ (wcs_at l j hj).1; rwa [Nat.zero_add] at this, by rw [Nat.zero_add]; have := h4 _ _ (wcs_at l j hj).2; rwa [Nat.zero_add] at this⟩⟩
theorem AtW.kp {w w' : World} {B H : Nat} {al : Option Addr} {l : List (Nat × List UInt8)} (h : AtW w B al l) (hk : Kp H H H w w') (hB : B ≤ H) (hs : B ≤ w.heap.size) : AtW w' B al l := fun j hj => by
  obtain ⟨g, o, h1, h2, h3, h4⟩ := h j hj
  have e := hk.block g (by omega) (by omega) (by omega) (by omega)
  exact ⟨g, o, h1, h2, (World.cell?_of_block (a := ⟨g, o + j * 2, none⟩) e).trans h3, (World.cell?_of_block (a := ⟨g, o + j * 2 + 1, none⟩) e).trans h4⟩
/-- while the law makes its keeps: its own list of what is wanted in block H, the keeps in memory of their own -/
structure L4 (wS w' : World) (H : Nat) (L N : List (List UInt8)) (bs : List Int) (q r : Nat) (vk : Value) : Prop where
  kp : Kp H H H wS w'
  row : Row6 w' H (wnK L N bs q)
  own : OwnK w' vk (kpK N bs r)
  new : ∀ k, vk.ownBlock = some k → wS.heap.size ≤ k
theorem L4.start {wS : World} {H : Nat} {L N : List (List UInt8)} {bs : List Int} (h : Row6 wS H L) : L4 wS wS H L N bs 0 0 (.slice none 0 0) where
  kp := .refl _ _ _ _
  row := by rw [wnK_zero]; exact h
  own := by rw [kpK_zero]; exact OwnM.nil 2 _
  new := fun k hk => by cases hk
theorem L4.grow {wS w w' : World} {H : Nat} {L N : List (List UInt8)} {bs : List Int} {q r r' : Nat} {v v' : Value} (h : L4 wS w H L N bs q r v) (hH : H < wS.heap.size) (hg : Grow w w' v v') (ho : OwnK w' v' (kpK N bs r')) : L4 wS w' H L N bs q r' v' where
  kp := ⟨hg.os.trans h.kp.os, hg.tape.trans h.kp.tape, hg.output.trans h.kp.output, Nat.le_trans h.kp.size hg.size, fun k hk h1 h2 h3 => (hg.old k (Nat.lt_of_lt_of_le hk h.kp.size) (fun e => by have := h.new k e; omega)).trans (h.kp.block k hk h1 h2 h3)⟩
  row := h.row.keep (hg.old H (Nat.lt_of_lt_of_le hH h.kp.size) (fun e => by have := h.new H e; omega))
  own := ho
  new := fun k hk => by
    rcases hg.alt with e | ⟨e, _⟩
    · rw [e] at hk; exact h.new k hk
    · exact Nat.le_trans h.kp.size (e k hk)
theorem L4.drew {wS w : World} {H : Nat} {L N : List (List UInt8)} {bs : List Int} {q r : Nat} {v : Value} (h : L4 wS w H L N bs q r v) (n : Nat) : L4 wS (w.drewN n) H L N bs q r v where
  kp := h.kp.trans (.ofBelow (below_drewN' (Below.refl _ _) n))
  row := h.row.keep ((below_drewN' (Below.refl w.heap.size w) n).block _ h.row.lt)
  own := h.own.below (below_drewN' (Below.refl w.heap.size w) n)
  new := h.new
theorem L4.set {wS w : World} {H : Nat} {L N : List (List UInt8)} {bs : List Int} {q r : Nat} {v : Value} (h : L4 wS w H L N bs q r v) (hH : H < wS.heap.size) {x : List UInt8} (e : (wnK L N bs q).set q x = wnK L N bs (q + 1)) : L4 wS (w.setCell ⟨H, q, none⟩ (.string ⟨x.toArray⟩)) H L N bs (q + 1) r v where
  kp := h.kp.setCell q _
  row := by rw [← e]; exact h.row.set q x
  own := h.own.kept (by simp [World.setCell]) (fun k hk => heap_setCell_other w ⟨H, q, none⟩ k _ (by have := h.new k hk; show k ≠ H; omega))
  new := h.new
end Go.Proofs.Ytkpfpfjjkcefkaa
