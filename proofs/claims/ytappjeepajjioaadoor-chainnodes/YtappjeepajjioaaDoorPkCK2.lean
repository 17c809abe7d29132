import Derived.Test.YtappjeepajjioaaDoorPkSK0
import Derived.Test.YtappjeepajjioaaDoorPkSP28
import Derived.Test.YtappjeepajjioaaDoorPkFN1
import Derived.Deep.CutRange
import Derived.Deep.DeepCutAuto
namespace Go.Proofs.YtappjeepajjioaaDoor
open Go.RowKit Go.Shelf
namespace Chn

theorem Cb.skip {B0 X gh gw : Nat} {F : Value → Array Value} {hv wv : List Value} {Ws : List (List (Nat × Nat))} {w0 w : World} {ρ : Nat → Nat} {p p' : Nat} {vl : Value} {ls : List Value} (h : Cb B0 X gh gw F hv wv Ws w0 ρ w p vl ls) (hp : p ≤ p') : Cb B0 X gh gw F hv wv Ws w0 ρ w p' vl ls :=
  { h with own := fun j W hj e => h.own j W (by omega) e }
/-- the i-th list is being written over: k marks stand -/
structure Ca (B0 X gh gw : Nat) (F : Value → Array Value) (hv wv : List Value) (Ws : List (List (Nat × Nat))) (w0 : World) (ρ : Nat → Nat) (w : World) (i k gm : Nat) (v : Value) (W : List (Nat × Nat)) (vl : Value) (ls : List Value) : Prop where
  cb : Cb B0 X gh gw F hv wv Ws w0 ρ w (i + 1) vl ls
  ov : OwnM 2 w v W.length (mks k (-5 - ((i : Nat) : Int)) ++ (prs W).drop (k * 2))
  rv : ∀ g, v.ownBlock = some g → ρ g = 3 + i
  sp : SpI w gm (-5 - ((i : Nat) : Int)) 0
  rg : ρ gm = 0
  ll : ls.length = 40 * i
theorem Ca.set {B0 X gh gw : Nat} {F : Value → Array Value} {hv wv : List Value} {Ws : List (List (Nat × Nat))} {w0 w : World} {ρ : Nat → Nat} {i k gm g c : Nat} {W : List (Nat × Nat)} {vl : Value} {ls : List Value} (h : Ca B0 X gh gw F hv wv Ws w0 ρ w i k gm (.slice (some ⟨g, 0, none⟩) W.length c) W vl ls) (hB : B0 ≤ w0.heap.size) (hk : k < W.length) :
    Ca B0 X gh gw F hv wv Ws w0 ρ ((w.setCell ⟨g, k * 2, none⟩ (.int .i64 (-5 - ((i : Nat) : Int)))).setCell ⟨g, k * 2 + 1, none⟩ (.int .i64 0)) i (k + 1) gm (.slice (some ⟨g, 0, none⟩) W.length c) W vl ls ∧
    (∃ y, w.cell? ⟨g, k * 2, none⟩ = some y) ∧ w.frozen? ⟨g, k * 2, none⟩ = false ∧ (∃ y, w.cell? ⟨g, k * 2 + 1, none⟩ = some y) ∧ w.frozen? ⟨g, k * 2 + 1, none⟩ = false := by
  have hl := prs_len W
  have hlen : (mks k (-5 - ((i : Nat) : Int)) ++ (prs W).drop (k * 2)).length = W.length * 2 := by rw [List.length_append, mks_len, List.length_drop, hl]; omega
  obtain ⟨o1, y1, f1⟩ := h.ov.set (j := k * 2) (by omega) (.int .i64 (-5 - ((i : Nat) : Int)))
  obtain ⟨_, y2, f2⟩ := h.ov.set (j := k * 2 + 1) (by omega) (.int .i64 0)
  obtain ⟨o2, _, _⟩ := o1.set (j := k * 2 + 1) (by rw [List.length_set]; omega) (.int .i64 0)
  rw [mks_set hl hk] at o2
  have hgl : g < w.heap.size := h.ov.lt g rfl
  have hrg := h.rv g rfl
  have hw : Wr ρ (3 + i) w ((w.setCell ⟨g, k * 2, none⟩ (.int .i64 (-5 - ((i : Nat) : Int)))).setCell ⟨g, k * 2 + 1, none⟩ (.int .i64 0)) := ((Wr.refl ρ (3 + i) w).setCell (fun _ => hrg) _ _).setCell (fun _ => hrg) _ _
  refine ⟨⟨h.cb.step hB hw (by omega) (Nat.le_refl _) ρ (fun _ _ => rfl) (fun j _ _ hj e => by omega) (fun t v e hr => ?_), o2, h.rv, ?_, h.rg, h.ll⟩, y1, f1, y2, f2⟩
  · have := (List.getElem?_eq_some_iff.1 e).1
    rw [h.ll] at this
    omega
  · exact (hw.block gm (lt_of_heap h.sp) (by rw [h.rg]; omega)).trans h.sp
/-- the i-th list is grown: q of its beginnings are kept -/
structure Cu (B0 X gh gw : Nat) (F : Value → Array Value) (hv wv : List Value) (Ws : List (List (Nat × Nat))) (w0 : World) (ρ : Nat → Nat) (w : World) (i q n gm : Nat) (v : Value) (vl : Value) (ls : List Value) : Prop where
  cb : Cb B0 X gh gw F hv wv Ws w0 ρ w (i + 1) vl ls
  ov : OwnM 2 w v n (mks n (-5 - ((i : Nat) : Int)))
  rv : ∀ g, v.ownBlock = some g → ρ g = 3 + i
  sp : SpI w gm (-5 - ((i : Nat) : Int)) 0
  rg : ρ gm = 0
  ll : ls.length = 40 * i + q
  sn : ∀ (t : Nat) (u : Value), ls[t]? = some u → t / 40 = i → ∃ a m c, u = .slice a m c ∧ m ≤ n
theorem Ca.done {B0 X gh gw : Nat} {F : Value → Array Value} {hv wv : List Value} {Ws : List (List (Nat × Nat))} {w0 w : World} {ρ : Nat → Nat} {i gm : Nat} {v : Value} {W : List (Nat × Nat)} {vl : Value} {ls : List Value} (h : Ca B0 X gh gw F hv wv Ws w0 ρ w i W.length gm v W vl ls) : Cu B0 X gh gw F hv wv Ws w0 ρ w i 0 W.length gm v vl ls where
  cb := h.cb
  ov := by
    have := h.ov
    rw [List.drop_eq_nil_of_le (by rw [prs_len]; exact Nat.le_refl _), List.append_nil] at this
    exact this
  rv := h.rv
  sp := h.sp
  rg := h.rg
  ll := h.ll
  sn := fun t u e hr => by
    have := (List.getElem?_eq_some_iff.1 e).1
    rw [h.ll] at this
    omega
theorem Cu.push {B0 X gh gw : Nat} {F : Value → Array Value} {hv wv : List Value} {Ws : List (List (Nat × Nat))} {w0 w w' : World} {ρ : Nat → Nat} {i q n gm ix : Nat} {v vl vl' : Value} {ls : List Value} (h : Cu B0 X gh gw F hv wv Ws w0 ρ w i q n gm v vl ls) (hB : B0 ≤ w0.heap.size) (hF : ∀ v v', (F v).setIfInBounds ix v' = F v') (hq : q < 40)
    (hg : Grow w w' vl vl') (ho : OwnM 1 w' vl' (ls.length + 1) (ls ++ [v])) : Cu B0 X gh gw F hv wv Ws w0 (rx ρ w 2) (w'.setCell ⟨X, ix, none⟩ vl') i (q + 1) n gm v vl' (ls ++ [v]) := by
  have hd : ls.length / 40 = i := by rw [h.ll]; omega
  have hw : Wr ρ 2 w w' := Wr.grow hg h.cb.rl
  have hset : ∀ k, k ≠ X → (w'.setCell ⟨X, ix, none⟩ vl').heap[k]? = w'.heap[k]? := fun k hk => heap_setCell_other w' ⟨X, ix, none⟩ k vl' hk
  have both : ∀ k, k < w.heap.size → ρ k ≠ 2 → ρ k ≠ 1 → (w'.setCell ⟨X, ix, none⟩ vl').heap[k]? = w.heap[k]? := fun k hk h2 h1 => (hset k (fun e => h1 (by rw [e]; exact h.cb.rX))).trans (hw.block k hk h2)
  have hs2 : w.heap.size ≤ (w'.setCell ⟨X, ix, none⟩ vl').heap.size := by simpa [World.setCell] using hw.size
  have hmk := h.ov.mk
  constructor
  case cb => exact h.cb.push hB hF hg ho (by rw [hd]; exact hmk) (fun k hk => ⟨h.ov.lt k hk, by rw [hd]; exact h.rv k hk⟩)
  case ov => exact h.ov.kept hs2 (fun g hg' => both g (h.ov.lt g hg') (by rw [h.rv g hg']; omega) (by rw [h.rv g hg']; omega))
  case rv => exact fun g hg' => by rw [rx_old (h.ov.lt g hg')]; exact h.rv g hg'
  case sp => exact (both gm (lt_of_heap h.sp) (by rw [h.rg]; omega) (by rw [h.rg]; omega)).trans h.sp
  case rg => rw [rx_old (lt_of_heap h.sp)]; exact h.rg
  case ll => rw [List.length_append, h.ll]; rfl
  case sn =>
    intro t u e hr
    rw [List.getElem?_append] at e
    split at e
    · exact h.sn t u e hr
    · obtain ⟨a, c, e1, _, _⟩ := h.ov.shape
      have ht := (List.getElem?_eq_some_iff.1 e).1
      simp at ht
      rw [show t - ls.length = 0 by omega] at e
      obtain rfl : v = u := Option.some.inj e
      exact ⟨a, n, c, e1, Nat.le_refl _⟩
theorem Cu.grow {B0 X gh gw : Nat} {F : Value → Array Value} {hv wv : List Value} {Ws : List (List (Nat × Nat))} {w0 w w' : World} {ρ : Nat → Nat} {i q n gm : Nat} {v v' vl : Value} {ls : List Value} (h : Cu B0 X gh gw F hv wv Ws w0 ρ w i q n gm v vl ls) (hB : B0 ≤ w0.heap.size)
    (hg : Grow w w' v v') (ho : OwnM 2 w' v' (n + 1) (mks (n + 1) (-5 - ((i : Nat) : Int)))) : Cu B0 X gh gw F hv wv Ws w0 (rx ρ w (3 + i)) w' i q (n + 1) gm v' vl ls := by
  have hw : Wr ρ (3 + i) w w' := Wr.grow hg h.rv
  constructor
  case cb =>
    refine h.cb.step hB hw (by omega) (Nat.le_refl _) _ (fun _ hk => rx_old hk) (fun j _ _ hj e => by omega) (fun t u e hr hM => ?_)
    obtain ⟨a0, m0, c0, e0, hm0⟩ := h.sn t u e (by omega)
    obtain ⟨a, m, c, e1, hm, hc⟩ := hM
    rw [e0] at e1
    injection e1 with e1 e2 e3
    subst e1 e2 e3
    refine ⟨a0, m0, c0, e0, hm, fun j hj => ?_⟩
    obtain ⟨g, ea, h3, h4, h5⟩ := hc j hj
    have keep : w'.heap[g]? = w.heap[g]? → ∃ g', a0 = some ⟨g', 0, none⟩ ∧ g' < w'.heap.size ∧ w'.cell? ⟨g', j * 2, none⟩ = some (.int .i64 (-5 - (((t / 40) : Nat) : Int))) ∧ w'.cell? ⟨g', j * 2 + 1, none⟩ = some (.int .i64 0) := fun e' =>
      ⟨g, ea, Nat.lt_of_lt_of_le h3 hg.size, (World.cell?_of_block (a := ⟨g, j * 2, none⟩) e').trans h4, (World.cell?_of_block (a := ⟨g, j * 2 + 1, none⟩) e').trans h5⟩
    by_cases hv : v.ownBlock = some g
    · rcases hg.alt with e4 | ⟨_, e4⟩
      · obtain ⟨g1, c1, f1, f2, f3⟩ := ho.cell (mks_at _ (n + 1) j (by omega)).1
        obtain ⟨g2, c2, f4, f5, _⟩ := ho.cell (mks_at _ (n + 1) j (by omega)).2
        rw [hv] at e4
        have hg1 : g1 = g := by rw [f1] at e4; injection e4
        have hg2 : g2 = g := by rw [f4] at e4; injection e4
        subst hg1
        subst hg2
        have ht : t / 40 = i := by omega
        rw [ht]
        exact ⟨_, ea, f3, f2, f5⟩
      · exact keep (e4 g h3)
    · exact keep (hg.old g h3 hv)
  case ov => exact ho
  case rv => exact Wr.own hg h.rv h.ov.lt
  case sp => exact (hw.block gm (lt_of_heap h.sp) (by rw [h.rg]; omega)).trans h.sp
  case rg => rw [rx_old (lt_of_heap h.sp)]; exact h.rg
  case ll => exact h.ll
  case sn =>
    intro t u e hr
    obtain ⟨a, m, c, e1, e2⟩ := h.sn t u e hr
    exact ⟨a, m, c, e1, by omega⟩
end Chn
end Go.Proofs.YtappjeepajjioaaDoor

namespace Go.Proofs.YtappjeepajjioaaDoor
open Go.RowKit Go.Shelf
theorem pk_nat (c : Int) (n : Nat) (hn : 1 ≤ n) : ∃ k : Nat, Hid (pk c (n : Int) = (k : Int)) ∧ k < n := by
  have q0 := pk_nonneg c (n : Int) (by omega)
  have q1 := pk_lt c (n : Int) (by omega)
  exact ⟨(pk c (n : Int)).toNat, by unfold Hid; omega, by omega⟩
theorem Apt_len : ∀ {L : List (Nat × Nat)} {b e : Nat} {p : Nat → Bool}, Tree.Apt b e L p → L.length + b ≤ e
  | [], b, e, p, h => by have := h.1; simpa using this
  | s :: L, b, e, p, h => by
    obtain ⟨a1, a2, a3, a4, a5, a6⟩ := h
    have := Apt_len a6
    rw [List.length_cons]
    omega
end Go.Proofs.YtappjeepajjioaaDoor

namespace Go.Proofs.YtappjeepajjioaaDoor
open Go.RowKit Go.Shelf
/-- rising's answer, with its capacity -/
def RisQ (n : Nat) (w : World) (r : Ending) (w' : World) : Prop := ∃ (a : Option Addr) (cap : Nat) (L : List Int), r = .returned (.slice a L.length cap) ∧ AtI w' a L ∧ BatOk n L ∧ Below w.heap.size w w' ∧ L.length ≤ cap ∧ cap ≤ 9223372036854775807
theorem partOut_ok {l : List (List UInt8)} {b e : Nat} (hw : wrg l = 0) (h1 : b ≤ e) (h2 : e ≤ l.length) : partOut l (b : Int) (e : Int) = (Tree.root (Tree.seg l b e), 0) := by
  unfold partOut
  rw [if_pos hw, if_pos (by omega), Int.toNat_natCast, Int.toNat_natCast]; rfl
end Go.Proofs.YtappjeepajjioaaDoor

namespace Go.Proofs.YtappjeepajjioaaDoor
open Go.RowKit Go.Shelf
/-- the hash of the leaves x to y, as a text's bytes -/
def rb (l : List (List UInt8)) (x y : Nat) : ByteArray := ⟨(Tree.root (Tree.seg l x y)).toArray⟩
theorem rb_list (l : List (List UInt8)) (x y : Nat) : (rb l x y).data.toList = Tree.root (Tree.seg l x y) := rfl
/-- what is known: true hashes all of them, and all of KN that lies in [b, b + n) -/
structure Kn (l : List (List UInt8)) (b n : Nat) (KN : List (Nat × Nat)) (K : List Sub) : Prop where
  val : ∀ q ∈ K, ∃ x y : Nat, q = (((x : Int), (y : Int)), rb l x y)
  has : ∀ s ∈ KN, b ≤ s.1 → s.1 < s.2 → s.2 ≤ b + n → (((s.1 : Int), (s.2 : Int)), rb l s.1 s.2) ∈ K
theorem hasI_nat {b e x y : Nat} (h1 : b ≤ x) (h2 : x < y) (h3 : y ≤ e) : hasI (b : Int) (e : Int) (x : Int) (y : Int) = true := by
  unfold hasI
  simp
  omega
theorem Kn.part {l : List (List UInt8)} {b n b' n' : Nat} {KN : List (Nat × Nat)} {K : List Sub} (h : Kn l b n KN K) (h1 : b ≤ b') (h2 : b' + n' ≤ b + n) : Kn l b' n' KN (witS (b' : Int) ((b' + n' : Nat) : Int) K) :=
  ⟨fun q hq => h.val q (List.mem_filter.1 hq).1, fun s hs h3 h4 h5 => List.mem_filter.2 ⟨h.has s hs (by omega) h4 (by omega), hasI_nat h3 h4 h5⟩⟩
theorem Kn.some {l : List (List UInt8)} {b n f : Nat} {KN : List (Nat × Nat)} {K : List Sub} (h : Kn l b n KN K) (hf : n ≤ f) (h1 : 1 ≤ n) (hc : Tree.canF f b n KN = true) : K.length ≠ 0 := by
  obtain ⟨s, hs, a1, a2, a3⟩ := Tree.can_within KN f b n hf h1 hc
  have := h.has s hs a1 a3 a2
  intro e
  rw [List.eq_nil_of_length_eq_zero e] at this
  cases this
theorem foS_root (l : List (List UInt8)) (KN : List (Nat × Nat)) : ∀ (f b n : Nat) (K : List Sub), n ≤ f → 1 ≤ n → b + n ≤ l.length → Kn l b n KN K → Tree.canF f b n KN = true → foS f b n K = some (rb l b (b + n))
  | 0, b, n, K, h1, h2, _, _, _ => by omega
  | f + 1, b, n, K, h1, h2, h3, hK, hc => by
    rw [foS]
    cases hfd : K.find? (fun q => decide (q.1 = ((b : Int), ((b + n : Nat) : Int)))) with
    | some q =>
      have e0 := List.find?_some hfd
      have e := of_decide_eq_true (show decide (q.1 = ((b : Int), ((b + n : Nat) : Int))) = true from e0)
      clear e0
      obtain ⟨x, y, hq⟩ := hK.val q (List.mem_of_find?_eq_some hfd)
      subst hq
      have e1 : (x : Int) = (b : Int) := congrArg Prod.fst e
      have e2 : (y : Int) = ((b + n : Nat) : Int) := congrArg Prod.snd e
      obtain rfl : x = b := by omega
      obtain rfl : y = x + n := by omega
      rfl
    | none =>
      have hno : ¬ (b, b + n) ∈ KN := fun hm => by
        have := hK.has _ hm (Nat.le_refl _) (by show b < b + n; omega) (Nat.le_refl _)
        have hn := List.find?_eq_none.1 hfd _ this
        exact hn (decide_eq_true rfl)
      rw [Tree.canF, if_neg hno] at hc
      by_cases hn2 : n < 2
      · rw [if_pos hn2] at hc; cases hc
      · rw [if_neg hn2, Bool.and_eq_true] at hc
        obtain ⟨c1, c2⟩ := hc
        have s1 := Tree.sp_lt (n := n) (by omega)
        have s2 := Tree.sp_pos (n := n) (by omega)
        have k1 := hK.part (b' := b) (n' := Tree.sp n) (Nat.le_refl _) (by omega)
        have k2 := hK.part (b' := b + Tree.sp n) (n' := n - Tree.sp n) (by omega) (by omega)
        have l1 := k1.some (by omega) (by omega) c1
        have l2 := k2.some (by omega) (by omega) c2
        have r1 := foS_root l KN f b (Tree.sp n) _ (by omega) (by omega) (by omega) k1 c1
        have r2 := foS_root l KN f (b + Tree.sp n) (n - Tree.sp n) _ (by omega) (by omega) (by omega) k2 c2
        rw [show b + Tree.sp n + (n - Tree.sp n) = b + n by omega] at l2 r2
        have rr := Tree.root_seg_two (l := l) (b := b) (n := n) (by omega) h3
        simp only [if_neg hn2]
        rw [if_neg (by intro h; rcases h with h | h; exact l1 h; exact l2 h), r1]
        simp only []
        rw [r2]
        simp only []
        rw [rb_list, rb_list, ← rr]
        rfl
theorem prd_mem {l : List (List UInt8)} : ∀ (KN : List (Nat × Nat)) (q : Sub), q ∈ prd (pm KN) (bas (KN.map fun s => Tree.root (Tree.seg l s.1 s.2))) ↔ ∃ s ∈ KN, q = (((s.1 : Int), (s.2 : Int)), rb l s.1 s.2)
  | [], q => by simp [prd, bas, pm]
  | s :: KN, q => by
    have ih := prd_mem (l := l) KN q
    have e : prd (pm (s :: KN)) (bas ((s :: KN).map fun s => Tree.root (Tree.seg l s.1 s.2))) = (((s.1 : Int), (s.2 : Int)), rb l s.1 s.2) :: prd (pm KN) (bas (KN.map fun s => Tree.root (Tree.seg l s.1 s.2))) := rfl
    rw [e, List.mem_cons, ih]
    constructor
    · rintro (h | ⟨t, ht, h⟩)
      · exact ⟨s, List.mem_cons_self, h⟩
      · exact ⟨t, List.mem_cons_of_mem _ ht, h⟩
    · rintro ⟨t, ht, h⟩
      rcases List.mem_cons.1 ht with rfl | ht
      · exact .inl h
      · exact .inr ⟨t, ht, h⟩
/-- H5, H6: known hashes that reach fold to the root -/
theorem foldA_root (l : List (List UInt8)) (KN : List (Nat × Nat)) (h1 : 1 ≤ l.length) (h2 : l.length ≤ 1099511627776) (hk : KN.length ≤ 4096) (hh : hsB8 (KN.map fun s => Tree.root (Tree.seg l s.1 s.2)) = true) (hc : Tree.canF l.length 0 l.length KN = true) :
    foldA (l.length : Int) (pm KN) (KN.map fun s => Tree.root (Tree.seg l s.1 s.2)) 0 (l.length : Int) = (rb l 0 l.length, 0) := by
  have hi' := insB_of (b := 0) (e := l.length) h1 h2 (by have := Tree.insF_self (f := l.length - 1) (b := 0) (n := l.length); rwa [Nat.zero_add, show l.length - 1 + 1 = l.length by omega] at this)
  have hi : insB (l.length : Int) 0 (l.length : Int) = true := hi'
  have hw : Kn l 0 l.length KN (witS ((0 : Nat) : Int) ((0 + l.length : Nat) : Int) (prd (pm KN) (bas (KN.map fun s => Tree.root (Tree.seg l s.1 s.2))))) :=
    (Kn.mk (b := 0) (n := l.length) (KN := KN) (fun q hq => by
      obtain ⟨s, _, e⟩ := (prd_mem KN q).1 hq
      exact ⟨s.1, s.2, e⟩) (fun s hs _ _ _ => (prd_mem KN _).2 ⟨s, hs, rfl⟩)).part (Nat.le_refl _) (Nat.le_refl _)
  have hf := foS_root l KN l.length 0 l.length _ (Nat.le_refl _) h1 (by omega) hw hc
  rw [Nat.zero_add] at hf
  unfold foldA
  rw [if_pos (by omega), if_pos (by simp [pm]; omega), if_pos hh, if_pos hi]
  have e0 : ((l.length : Int).toNat - (0 : Int).toNat) = l.length := by omega
  rw [e0]
  have e1 : (0 : Int).toNat = 0 := rfl
  rw [e1]
  rw [show ((0 : Nat) : Int) = (0 : Int) from rfl] at hf
  rw [hf]
end Go.Proofs.YtappjeepajjioaaDoor

namespace Go.Proofs.YtappjeepajjioaaDoor
open Go.RowKit Go.Shelf
theorem seg_hs {l : List (List UInt8)} (h : Tree.Hs l) (x y : Nat) : Tree.Hs (Tree.seg l x y) := fun t ht => h t (List.mem_of_mem_take (List.mem_of_mem_drop ht))
theorem roots_hs {l : List (List UInt8)} (h : Tree.Hs l) (KN : List (Nat × Nat)) : hsB8 (KN.map fun s => Tree.root (Tree.seg l s.1 s.2)) = true := by
  unfold hsB8
  rw [List.all_eq_true]
  intro t ht
  obtain ⟨s, _, rfl⟩ := List.mem_map.1 ht
  rw [Tree.root_hash (seg_hs h _ _)]
  rfl
/-- the leaves of a list, as spans -/
def lvs (is : List Nat) : List (Nat × Nat) := is.map fun i => (i, i + 1)
theorem lvs_len (is : List Nat) : (lvs is).length = is.length := List.length_map _
theorem lvs_snoc (is : List Nat) (i : Nat) : lvs (is ++ [i]) = lvs is ++ [(i, i + 1)] := by unfold lvs; rw [List.map_append]; rfl
theorem lvs_mem {is : List Nat} {i : Nat} (h : i ∈ is) : (i, i + 1) ∈ lvs is := List.mem_map.2 ⟨i, h, rfl⟩
/-- H6: what lies beside some leaves folds with them to the root -/
theorem fold_oth (l : List (List UInt8)) (hs : Tree.Hs l) (cs : List Int) (hb : BatOk (l.length : Int) cs) (h2 : l.length ≤ 4096) :
    foldA (l.length : Int) (pm (Tree.othF l.length 0 l.length (toN cs) ++ lvs (toN cs))) ((Tree.othF l.length 0 l.length (toN cs) ++ lvs (toN cs)).map fun s => Tree.root (Tree.seg l s.1 s.2)) 0 (l.length : Int) = (rb l 0 l.length, 0) := by
  have h1 : 1 ≤ l.length := by have := hb.n1; omega
  have hc := bat_count hb
  refine foldA_root l _ h1 (by omega) ?_ (roots_hs hs _) ?_
  · rw [List.length_append, lvs_len, hb.len]
    omega
  · exact Tree.can_oth _ (toN cs) _ 0 _ (Nat.le_refl _) h1 (fun s h => List.mem_append_left _ h) (fun i hi _ _ => List.mem_append_right _ (lvs_mem hi))
/-- H6: what lies beside a run of leaves folds with them to the root -/
theorem fold_run (l : List (List UInt8)) (hs : Tree.Hs l) (x y : Nat) (hxy : x < y) (hy : y ≤ l.length) (h2 : l.length ≤ 2048) :
    foldA (l.length : Int) (pm (Tree.runF l.length 0 l.length x y ++ lvs (List.range' x (y - x)))) ((Tree.runF l.length 0 l.length x y ++ lvs (List.range' x (y - x))).map fun s => Tree.root (Tree.seg l s.1 s.2)) 0 (l.length : Int) = (rb l 0 l.length, 0) := by
  have h1 : 1 ≤ l.length := by omega
  have ha := Tree.runF_apart x y l.length 0 l.length h1 (Nat.le_refl _) hxy
  have hl := Apt_len ha
  refine foldA_root l _ h1 (by omega) ?_ (roots_hs hs _) ?_
  · rw [List.length_append, lvs_len, List.length_range']
    omega
  · refine Tree.can_run _ x y _ 0 _ (Nat.le_refl _) h1 (fun s h => List.mem_append_left _ h) (fun i hi hj => List.mem_append_right _ (lvs_mem ?_))
    rw [List.mem_range'_1]
    omega
/-- every span of a batch or a run, and of a path or a proof, is one of [0, n) -/
theorem apt_in : ∀ {L : List (Nat × Nat)} {b e : Nat} {p : Nat → Bool}, Tree.Apt b e L p → ∀ s ∈ L, b ≤ s.1 ∧ s.1 < s.2 ∧ s.2 ≤ e
  | s :: L, b, e, p, h, t, ht => by
    obtain ⟨a1, a2, a3, a4, a5, a6⟩ := h
    rcases List.mem_cons.1 ht with rfl | ht
    · exact ⟨a1, a2, a3⟩
    · have := apt_in a6 t ht
      exact ⟨by omega, this.2.1, this.2.2⟩
end Go.Proofs.YtappjeepajjioaaDoor

namespace Go.Proofs.YtappjeepajjioaaDoor
open Go.RowKit Go.Shelf
theorem seg_all (l : List (List UInt8)) : Tree.seg l 0 l.length = l := by unfold Tree.seg; rw [List.take_length]; rfl
theorem pth_in : ∀ (f b n i : Nat), ∀ s ∈ Tree.pthF f b n i, b ≤ s.1 ∧ s.1 ≤ s.2 ∧ s.2 ≤ b + n
  | 0, b, n, i, s, h => by cases h
  | f + 1, b, n, i, s, h => by
    by_cases h2 : n < 2
    · rw [Tree.pthF_small h2] at h; cases h
    · have s1 := Tree.sp_lt (n := n) (by omega)
      have s2 := Tree.sp_pos (n := n) (by omega)
      by_cases hi : i < b + Tree.sp n
      · rw [Tree.pthF_left (by omega) hi] at h
        rcases List.mem_append.1 h with h | h
        · have := pth_in f b (Tree.sp n) i s h
          omega
        · obtain rfl := List.mem_singleton.1 h
          exact ⟨by show b ≤ b + Tree.sp n; omega, by show b + Tree.sp n ≤ b + n; omega, by show b + n ≤ b + n; omega⟩
      · rw [Tree.pthF_right (by omega) hi] at h
        rcases List.mem_append.1 h with h | h
        · have := pth_in f (b + Tree.sp n) (n - Tree.sp n) i s h
          omega
        · obtain rfl := List.mem_singleton.1 h
          exact ⟨by show b ≤ b; omega, by show b ≤ b + Tree.sp n; omega, by show b + Tree.sp n ≤ b + n; omega⟩
theorem prf_in : ∀ (f b n m : Nat), 1 ≤ n → b < m → m ≤ b + n → ∀ s ∈ Tree.prfF f b n m, b ≤ s.1 ∧ s.1 ≤ s.2 ∧ s.2 ≤ b + n
  | 0, b, n, m, _, _, _, s, h => by cases h
  | f + 1, b, n, m, h1, hm, hm2, s, h => by
    rw [Tree.prfF] at h
    by_cases h2 : b + n = m
    · rw [if_pos h2] at h
      by_cases hb : b = 0
      · rw [if_pos hb] at h; cases h
      · rw [if_neg hb] at h
        obtain rfl := List.mem_singleton.1 h
        exact ⟨by show b ≤ b; omega, by show b ≤ b + n; omega, by show b + n ≤ b + n; omega⟩
    · rw [if_neg h2] at h
      have s1 := Tree.sp_lt (n := n) (by omega)
      have s2 := Tree.sp_pos (n := n) (by omega)
      by_cases hi : m ≤ b + Tree.sp n
      · rw [if_pos hi] at h
        rcases List.mem_append.1 h with h | h
        · have := prf_in f b (Tree.sp n) m (by omega) hm hi s h
          omega
        · obtain rfl := List.mem_singleton.1 h
          exact ⟨by show b ≤ b + Tree.sp n; omega, by show b + Tree.sp n ≤ b + n; omega, by show b + n ≤ b + n; omega⟩
      · rw [if_neg hi] at h
        rcases List.mem_append.1 h with h | h
        · have := prf_in f (b + Tree.sp n) (n - Tree.sp n) m (by omega) (by omega) (by omega) s h
          omega
        · obtain rfl := List.mem_singleton.1 h
          exact ⟨by show b ≤ b; omega, by show b ≤ b + Tree.sp n; omega, by show b + Tree.sp n ≤ b + n; omega⟩
/-- H2, H3, H4 against layer 3 -/
theorem pth_hash (l : List (List UInt8)) (k : Nat) (hk : k < l.length) : (Tree.pthF l.length 0 l.length k).map (fun s => Tree.root (Tree.seg l s.1 s.2)) = Tree.path k l := by
  have h := Tree.pthF_hash l l.length 0 l.length k (Nat.le_refl _) (Nat.zero_le _) (by omega) (by omega)
  rw [Nat.zero_add, seg_all, Nat.sub_zero] at h
  exact h
theorem prf_hash (l : List (List UInt8)) (m : Nat) (h1 : 1 ≤ m) (h2 : m ≤ l.length) : (Tree.prfF l.length 0 l.length m).map (fun s => Tree.root (Tree.seg l s.1 s.2)) = Tree.proof m l true := by
  have h := Tree.prfF_hash l l.length 0 l.length m (Nat.le_refl _) (by omega) (by omega) (by omega)
  rw [Nat.zero_add, seg_all, Nat.sub_zero] at h
  exact h
theorem oth_hash (l : List (List UInt8)) (is : List Nat) (h1 : 1 ≤ l.length) (hi : ∀ i ∈ is, i < l.length) : (Tree.othF l.length 0 l.length is).map (fun s => Tree.root (Tree.seg l s.1 s.2)) = Tree.many is 0 l := by
  have h := Tree.othF_hash l is l.length 0 l.length h1 (Nat.le_refl _) (by omega)
  rw [wit_whole hi, Nat.zero_add, seg_all] at h
  exact h
end Go.Proofs.YtappjeepajjioaaDoor

namespace Go.Proofs.YtappjeepajjioaaDoor
open Go.RowKit Go.Shelf
theorem BatOk.okI {n : Nat} {cs : List Int} (h : BatOk (n : Int) cs) : OkI n cs := by
  refine ⟨h.l1, h.l2, fun j x hx => ?_, fun j x y hx hy => ?_⟩
  · exact h.all x (List.mem_of_getElem? hx)
  · obtain ⟨h1, e1⟩ := List.getElem?_eq_some_iff.1 hx
    obtain ⟨h2, e2⟩ := List.getElem?_eq_some_iff.1 hy
    have := List.pairwise_iff_getElem.1 h.so j (j + 1) h1 h2 (by omega)
    rw [e1, e2] at this
    exact this
theorem hs_all {X : List (List UInt8)} (h : X.all (·.length == 32) = true) : Tree.Hs X := fun x hx => by
  have := List.all_eq_true.1 h x hx
  simpa using this
theorem wrg_zero {X : List (List UInt8)} (h : X.all (·.length == 32) = true) (hl : X.length ≤ 4096) : wrg X = 0 := by
  unfold wrg
  rw [if_neg (by omega), if_pos h]
theorem rootOut_ok {X : List (List UInt8)} (h : wrg X = 0) : rootOut X = (Tree.root X, 0) := by unfold rootOut; rw [if_pos h]
theorem pathOut_ok {X : List (List UInt8)} (h : wrg X = 0) {k : Nat} (hk : k < X.length) : pathOut X (k : Int) = (Tree.path k X, 0) := by
  unfold pathOut; rw [if_pos h, if_pos (by omega), Int.toNat_natCast]
theorem proofOut_ok {X : List (List UInt8)} (h : wrg X = 0) {m : Nat} (h1 : 1 ≤ m) (hm : m ≤ X.length) : proofOut X (m : Int) = (Tree.proof m X true, 0) := by
  unfold proofOut; rw [if_pos h, if_pos (by omega), Int.toNat_natCast]
theorem manyOut_ok {X : List (List UInt8)} (h : wrg X = 0) {cs : List Int} (hb : BatOk (X.length : Int) cs) : manyOut X cs = (Tree.many (toN cs) 0 X, 0) := by
  unfold manyOut; rw [if_pos h, if_pos hb.okI]
/-- a list of texts and no error -/
def AnsT (n : Nat) (L : List (List UInt8)) (w : World) (r : Ending) (w' : World) : Prop := ∃ a k, r = .returned (.tuple #[.slice a n k, .int .i64 0]) ∧ At w' a L ∧ Below w.heap.size w w'
theorem Out2.ans {w w' : World} {o : List (List UInt8) × Int} {L : List (List UInt8)} {r : Ending} {n : Nat} (h : Out2 w o r w') (ho : o = (L, 0)) (hn : L.length = n) : AnsT n L w r w' := by
  subst ho hn
  obtain ⟨v, rfl, h1, h2⟩ := h
  obtain ⟨a, cap, rfl, h3, _⟩ := h1.at
  exact ⟨a, cap, rfl, h3, h2⟩
end Go.Proofs.YtappjeepajjioaaDoor

namespace Go.Proofs.YtappjeepajjioaaDoor
open Go.RowKit Go.Shelf

/-- the hash of a span of these leaves -/
def shX (X : List (List UInt8)) (s : Nat × Nat) : List UInt8 := Tree.root (Tree.seg X s.1 s.2)
end Go.Proofs.YtappjeepajjioaaDoor

namespace Go.Proofs.YtappjeepajjioaaDoor
open Go.RowKit Go.Shelf

/-- the law's two lists of spans while they grow: all that lies below wD's end stays -/
structure T2 (wD w : World) (gS kk Y : Nat) (vd vx : Value) (A B : List (Nat × Nat)) : Prop where
  bel : Below wD.heap.size wD w
  od : OwnP w vd A
  ox : OwnP w vx B
  sp : SpI w gS kk Y
  nd : ∀ k, vd.ownBlock = some k → wD.heap.size ≤ k
  nx : ∀ k, vx.ownBlock = some k → wD.heap.size ≤ k
  ne : ∀ k, vd.ownBlock = some k → vx.ownBlock ≠ some k
  sd : vd.ownBlock ≠ some gS
  sx : vx.ownBlock ≠ some gS
theorem T2.growD {wD w w' : World} {gS kk Y : Nat} {vd vx v' : Value} {A A' B : List (Nat × Nat)} (h : T2 wD w gS kk Y vd vx A B) (hg : Grow w w' vd v') (ho : OwnP w' v' A') : T2 wD w' gS kk Y v' vx A' B where
  bel := h.bel.trans ⟨hg.os, hg.tape, hg.output, hg.size, fun k hk => hg.old k (Nat.lt_of_lt_of_le hk h.bel.size) (fun e => by have := h.nd k e; omega)⟩
  od := ho
  ox := h.ox.kept hg.size (fun g e => hg.old g (h.ox.lt g e) (fun e' => h.ne g e' e))
  sp := (hg.old gS (lt_of_heap h.sp) h.sd).trans h.sp
  nd := fun k e => by
    rcases hg.alt with e1 | ⟨e1, _⟩
    · exact h.nd k (e1 ▸ e)
    · exact Nat.le_trans h.bel.size (e1 k e)
  nx := h.nx
  ne := fun k e => by
    rcases hg.alt with e1 | ⟨e1, _⟩
    · exact h.ne k (e1 ▸ e)
    · intro e2
      have := e1 k e
      have := h.ox.lt k e2
      omega
  sd := by
    rcases hg.alt with e1 | ⟨e1, _⟩
    · rw [e1]; exact h.sd
    · intro e2
      have := e1 gS e2
      have := lt_of_heap h.sp
      omega
  sx := h.sx
theorem T2.flip {wD w : World} {gS kk Y : Nat} {vd vx : Value} {A B : List (Nat × Nat)} (h : T2 wD w gS kk Y vd vx A B) : T2 wD w gS kk Y vx vd B A :=
  ⟨h.bel, h.ox, h.od, h.sp, h.nx, h.nd, fun k e1 e2 => h.ne k e2 e1, h.sx, h.sd⟩
theorem T2.growX {wD w w' : World} {gS kk Y : Nat} {vd vx v' : Value} {A B B' : List (Nat × Nat)} (h : T2 wD w gS kk Y vd vx A B) (hg : Grow w w' vx v') (ho : OwnP w' v' B') : T2 wD w' gS kk Y vd v' A B' := (h.flip.growD hg ho).flip
theorem T2.drew {wD w : World} {gS kk Y : Nat} {vd vx : Value} {A B : List (Nat × Nat)} (h : T2 wD w gS kk Y vd vx A B) : T2 wD w.drew gS kk Y vd vx A B :=
  ⟨h.bel.drew, h.od.drew, h.ox.drew, h.sp, h.nd, h.nx, h.ne, h.sd, h.sx⟩
theorem T2.below {wD w w' : World} {gS kk Y : Nat} {vd vx : Value} {A B : List (Nat × Nat)} (h : T2 wD w gS kk Y vd vx A B) (hb : Below w.heap.size w w') : T2 wD w' gS kk Y vd vx A B :=
  ⟨h.bel.trans (hb.mono h.bel.size), h.od.below hb, h.ox.below hb, h.sp.below hb, h.nd, h.nx, h.ne, h.sd, h.sx⟩
/-- the leaves of a list of indices, one by one -/
theorem lvs_take (is : List Nat) {j i : Nat} (h : is[j]? = some i) : lvs (is.take (j + 1)) = lvs (is.take j) ++ [(i, i + 1)] := by
  rw [List.take_add_one, h, Option.toList_some, lvs_snoc]
theorem range_snoc (a n : Nat) : lvs (List.range' a (n + 1)) = lvs (List.range' a n) ++ [(a + n, a + n + 1)] := by
  rw [List.range'_concat, lvs_snoc, Nat.one_mul]
theorem sv_take (X : List (List UInt8)) (A : List (Nat × Nat)) {j : Nat} {s : Nat × Nat} (h : A[j]? = some s) : (A.take (j + 1)).map (shX X) = (A.take j).map (shX X) ++ [shX X s] := by
  rw [List.take_add_one, h, Option.toList_some, List.map_append]; rfl
end Go.Proofs.YtappjeepajjioaaDoor

namespace Go.Proofs.YtappjeepajjioaaDoor
open Go.RowKit Go.Shelf
namespace Chn

/-- the book's cells: only lists of spans -/
def fS (gh ch gw cw c : Nat) (vl : Value) : Array Value := #[.slice none 0 0, .slice none 0 0, .slice none 0 0, .slice (some ⟨gh, 0, none⟩) c ch, .slice (some ⟨gw, 0, none⟩) c cw, vl, .slice none 0 0, .slice none 0 0, .slice none 0 0]
theorem fS_set (gh ch gw cw c : Nat) : ∀ v v', (fS gh ch gw cw c v).setIfInBounds 5 v' = fS gh ch gw cw c v' := fun _ _ => rfl
theorem Cb.cells {B0 X gh ch gw cw c : Nat} {hv wv : List Value} {Ws : List (List (Nat × Nat))} {w0 w : World} {ρ : Nat → Nat} {p : Nat} {vl : Value} {ls : List Value} (h : Cb B0 X gh gw (fS gh ch gw cw c) hv wv Ws w0 ρ w p vl ls) :
    w.cell? ⟨X, 3, none⟩ = some (.slice (some ⟨gh, 0, none⟩) c ch) ∧ w.cell? ⟨X, 4, none⟩ = some (.slice (some ⟨gw, 0, none⟩) c cw) ∧ w.cell? ⟨X, 5, none⟩ = some vl ∧ w.cell? ⟨X, 0, none⟩ = some (.slice none 0 0) ∧ w.cell? ⟨X, 2, none⟩ = some (.slice none 0 0) ∧ w.cell? ⟨X, 6, none⟩ = some (.slice none 0 0) ∧ w.cell? ⟨X, 8, none⟩ = some (.slice none 0 0) ∧ w.frozen? ⟨X, 5, none⟩ = false :=
  ⟨by rw [cell_of_row _ _ _ _ _ _ h.row]; rfl, by rw [cell_of_row _ _ _ _ _ _ h.row]; rfl, by rw [cell_of_row _ _ _ _ _ _ h.row]; rfl, by rw [cell_of_row _ _ _ _ _ _ h.row]; rfl, by rw [cell_of_row _ _ _ _ _ _ h.row]; rfl, by rw [cell_of_row _ _ _ _ _ _ h.row]; rfl, by rw [cell_of_row _ _ _ _ _ _ h.row]; rfl, frozen_of_row _ _ _ _ _ h.row⟩
theorem infoLs : (Tryd.prog.info? 34).map (fun i => (i.zero, i.size, i.bytes)) = some (some (.slice none 0 0), 1, 24) := by kernel_rfl
/-- append to the list of lists -/
theorem append_ls (w : World) (v : Value) (ls : List Value) (a : Option Addr) (n c : Nat) (h : OwnM 1 w v ls.length ls) (hl : ls.length ≤ 1000000) :
    ∃ v' w', (Builtin.append_ #[26, 26] 26 #[v, .slice (some ⟨w.heap.size, 0, none⟩) 1 1]).run Tryd.prog (w.alloc (.cells #[.slice a n c] 34)) = .ok v' w' ∧ OwnM 1 w' v' (ls.length + 1) (ls ++ [.slice a n c]) ∧ Grow w w' v v' :=
  append_oneL 26 34 _ 24 Tryd.underlying26 infoLs rfl w v ls.length ls [.slice a n c] rfl (fun u hu => by
    simp only [List.mem_cons, List.not_mem_nil, or_false] at hu
    subst hu; rfl) h (by omega) (by rw [maxLen]; omega)
/-- append of a mark -/
theorem append_mk (w : World) (v : Value) (n : Nat) (m : Int) (h : OwnM 2 w v n (mks n m)) (hl : n ≤ 2000000000000) :
    ∃ v' w', (Builtin.append_ #[34, 34] 34 #[v, .slice (some ⟨w.heap.size, 0, none⟩) 1 1]).run Tryd.prog (w.alloc (.cells #[.int .i64 m, .int .i64 0] 45)) = .ok v' w' ∧ OwnM 2 w' v' (n + 1) (mks (n + 1) m) ∧ Grow w w' v v' :=
  append_oneL 34 45 (.agg #[.int .i64 0, .int .i64 0]) 16 Tryd.underlying34 infoSp8 rfl w v n (mks n m) [.int .i64 m, .int .i64 0] rfl (fun u hu => by
    simp only [List.mem_cons, List.not_mem_nil, or_false] at hu
    rcases hu with rfl | rfl <;> rfl) h (by omega) (by rw [maxLen]; omega)
set_option maxRecDepth 100000 in
set_option maxHeartbeats 4000000 in
theorem stay_C (B0 X gh ch gw cw c : Nat) (hv wv : List Value) (Ws : List (List (Nat × Nat))) (w0 w : World) (ρ0 : Nat → Nat) (p J0 : Nat) (vl : Value) (ls : List Value) (h : Cb B0 X gh gw (fS gh ch gw cw c) hv wv Ws w0 ρ0 w p vl ls) (hp : p ≤ J0) (hJ0 : J0 ≤ c) (hB : B0 ≤ w0.heap.size) (hWl : Ws.length = c) (hc : c ≤ 1000) (hch : c ≤ ch) (hcw : c ≤ cw) (HW : Hid (∀ W ∈ Ws, W.length ≤ 1099511627776)) :
    Calls Tryd.prog 21 #[.pointer (some ⟨X, 0, none⟩), .int .i64 0, .int .i64 (J0 : Int), .int .i64 0] w fun r w' => r = .returned (.bool true) ∧ ∃ ρ, Cb B0 X gh gw (fS gh ch gw cw c) hv wv Ws w0 ρ w' p vl ls ∧ Below w.heap.size w w' ∧ ∀ k, k < w.heap.size → ρ k = ρ0 k := by
  have H0 := hid h
  clear h
  obtain ⟨x0, x1, x2, x3, x5, x6, x8, f2⟩ := H0.out.cells
  go_enter Tryd.func21, Tryd.ntmps21
  go_wp2
  go_loopw [9, 10] (fun i _ w' => i = .int .i64 0 ∧ w' = w) (fun _ _ _ => 0)
  case atStart => exact ⟨rfl, rfl⟩
  case round =>
    obtain ⟨rfl, hwq⟩ := hrel
    rw [hwq]
    clear hwq
    go_wp2
    go_loopw [11, 12] (fun j _ w' => ∃ (J : Nat) (ρ : Nat → Nat), J0 ≤ J ∧ J ≤ c ∧ j = .int .i64 (J : Int) ∧ Hid (Cb B0 X gh gw (fS gh ch gw cw c) hv wv Ws w0 ρ w' p vl ls ∧ Below w.heap.size w w' ∧ ∀ k, k < w.heap.size → ρ k = ρ0 k)) (fun j _ _ => c - (RowKit.intOf j).toNat)
    case atStart => exact ⟨J0, ρ0, Nat.le_refl _, hJ0, by first | rfl | go_num, H0.out, Below.refl _ _, fun _ _ => rfl⟩
    case round =>
      clear H0 x0 x1 x2 x3 x5 x6 x8 f2
      obtain ⟨J, ρ4, hIJ, hJ, rfl, hC4⟩ := hrel
      obtain ⟨x0, x1, x2, x3, x5, x6, x8, f2⟩ := hC4.out.1.cells
      by_cases hJc : J < c
      · have b5 : (J : Int) < (c : Int) := by omega
        have j0 : (0 : Int) ≤ (J : Int) := by omega
        obtain ⟨W, hWe⟩ : ∃ W, Ws[J]? = some W := ⟨_, List.getElem?_eq_getElem (by omega)⟩
        have hWs := HW.out W (List.mem_of_getElem? hWe)
        obtain ⟨v, hve, hOv, hrv⟩ := hC4.out.1.own J W (by omega) hWe
        obtain ⟨aw, cw', hwe, hAw, _⟩ := hC4.out.1.want J W hWe
        have d0 := hC4.out.1.hr J v hve
        rw [Nat.zero_add] at d0
        have d1 := hC4.out.1.wr J _ hwe
        rw [Nat.zero_add] at d1
        obtain ⟨av, cv, hvv, hcv, hcv2⟩ := hOv.shape
        subst hvv
        have hs := spans_yes (pm W) av aw cv cw' wr.drew (by rw [List.length_map]; omega) ((OwnP.atP hOv).kept (Nat.le_refl _) (fun _ _ _ => rfl)) (hAw.kept (Nat.le_refl _) (fun _ _ _ => rfl))
        rw [List.length_map] at hs
        have lX := lt_of_heap hC4.out.1.row
        have lh := hC4.out.1.lh
        have lw := hC4.out.1.lw
        have HC5 : Hid (∀ w' : World, Below wr.heap.size wr w' → Cb B0 X gh gw (fS gh ch gw cw c) hv wv Ws w0 (rx ρ4 wr 0) w' p vl ls ∧ Below w.heap.size w w' ∧ ∀ k, k < w.heap.size → rx ρ4 wr 0 k = ρ0 k) := fun w' (hb : Below wr.heap.size wr w') => ⟨hC4.out.1.below hB hb, hC4.out.2.1.trans (hb.mono hC4.out.2.1.size), fun k hk => by rw [rx_old (Nat.lt_of_lt_of_le hk hC4.out.2.1.size)]; exact hC4.out.2.2 k hk⟩
        obtain ⟨nW, hnW⟩ : ∃ nW, W.length = nW := ⟨_, rfl⟩
        rw [hnW] at hs d0 d1
        clear hOv hrv hAw hC4 hwe hve
        go_wp2
        go_region_held3 (fun w' => w'.cell? ⟨X, 3, none⟩ = some (.slice (some ⟨gh, 0, none⟩) c ch) ∧ w'.cell? ⟨X, 4, none⟩ = some (.slice (some ⟨gw, 0, none⟩) c cw) ∧ w'.cell? ⟨gh, J, none⟩ = some (.slice av nW cv) ∧ w'.cell? ⟨gw, J, none⟩ = some (.slice aw nW cw')) (first | exact e4 | exact ⟨x0, x1, d0, d1⟩)
          (first | (go_at_call 12; (with_reducible refine hs.mono ?_); rintro e w2 ⟨rfl, hw2'⟩; have hw2 := drewBelow8 hw2'; have e4 := And.intro ((hw2.cell (p := ⟨X, 3, none⟩) lX).trans x0) (And.intro ((hw2.cell (p := ⟨X, 4, none⟩) lX).trans x1) (And.intro ((hw2.cell (p := ⟨gh, J, none⟩) lh).trans d0) ((hw2.cell (p := ⟨gw, J, none⟩) lw).trans d1)))))
        all_goals
          have HC6 := hid (HC5.out _ hw2)
          clear hw2 hw2' e4 HC5 hs
          go_wp2
          exact ⟨⟨J + 1, _, by omega, by omega, by go_num, HC6⟩, by simp [RowKit.intOf]; omega⟩
      · obtain rfl : J = c := by omega
        have b5 : ¬ (J : Int) < (J : Int) := by omega
        clear x2 x3 x5 f2
        go_wp2
        obtain ⟨wE, hwE⟩ : ∃ wE, wr = wE := ⟨_, rfl⟩
        rw [hwE] at x6 hC4 ⊢
        clear hwE
        go_loopw [13, 14] (fun i _ w' => i = .int .i64 0 ∧ w' = wE) (fun _ _ _ => 0)
        case atStart => exact ⟨rfl, rfl⟩
        case round =>
          obtain ⟨rfl, hwq⟩ := hrel
          rw [hwq]
          clear hwq
          go_wp2
          go_ret
          exact ⟨rfl, ρ4, hC4.out⟩
end Chn
end Go.Proofs.YtappjeepajjioaaDoor
