import Derived.Test.YtjcapdkibbjmiaaGreatDoorPkCL2
import Derived.Test.YtjcapdkibbjmiaaGreatDoorPkI10
import Derived.Test.YtjcapdkibbjmiaaGreatDoorPkFR1
import Derived.BigQuiet
import Derived.Deep.RegionHeld3
import Derived.Test.YtjcapdkibbjmiaaGreatDoorPkO3
import Derived.Test.YtjcapdkibbjmiaaGreatDoorPkSP28
import Derived.Lib.TrailingZeros
import Derived.Test.YtjcapdkibbjmiaaGreatDoorPkO51
import Derived.Test.YtjcapdkibbjmiaaGreatDoorPkTL1
import Derived.Laws.ResultCell
namespace Go.Proofs.YtjcapdkibbjmiaaGreatDoor
open Go.RowKit Go.Shelf
namespace Chn
namespace Gb
theorem Cb.skip {mk : Nat → Value} {B0 X gh gw : Nat} {F : Value → Array Value} {hv wv : List Value} {Ws : List (List Value)} {w0 w : World} {ρ : Nat → Nat} {p p' : Nat} {vl : Value} {ls : List Value} (h : Cb mk B0 X gh gw F hv wv Ws w0 ρ w p vl ls) (hp : p ≤ p') : Cb mk B0 X gh gw F hv wv Ws w0 ρ w p' vl ls :=
  { h with own := fun j W hj e => h.own j W (by omega) e }
structure Ca (mk : Nat → Value) (B0 X gh gw : Nat) (F : Value → Array Value) (hv wv : List Value) (Ws : List (List Value)) (w0 : World) (ρ : Nat → Nat) (w : World) (i k : Nat) (v : Value) (W : List Value) (vl : Value) (ls : List Value) : Prop where
  cb : Cb mk B0 X gh gw F hv wv Ws w0 ρ w (i + 1) vl ls
  ov : OwnM 1 w v W.length (List.replicate k (mk i) ++ W.drop k)
  rv : ∀ g, v.ownBlock = some g → ρ g = 3 + i
  ll : ls.length = 40 * i
theorem Ca.set {mk : Nat → Value} {B0 X gh gw : Nat} {F : Value → Array Value} {hv wv : List Value} {Ws : List (List Value)} {w0 w : World} {ρ : Nat → Nat} {i k g c : Nat} {W : List Value} {vl : Value} {ls : List Value} (h : Ca mk B0 X gh gw F hv wv Ws w0 ρ w i k (.slice (some ⟨g, 0, none⟩) W.length c) W vl ls) (hB : B0 ≤ w0.heap.size) (hk : k < W.length) :
    Ca mk B0 X gh gw F hv wv Ws w0 ρ (w.setCell ⟨g, k, none⟩ (mk i)) i (k + 1) (.slice (some ⟨g, 0, none⟩) W.length c) W vl ls ∧ (∃ y, w.cell? ⟨g, k, none⟩ = some y) ∧ w.frozen? ⟨g, k, none⟩ = false := by
  have hlen : (List.replicate k (mk i) ++ W.drop k).length = W.length := by rw [List.length_append, List.length_replicate, List.length_drop]; omega
  obtain ⟨o1, y1, f1⟩ := h.ov.set (j := k) (by omega) (mk i)
  rw [rep_set rfl hk] at o1
  have hrg := h.rv g rfl
  have hw : Wr ρ (3 + i) w (w.setCell ⟨g, k, none⟩ (mk i)) := (Wr.refl ρ (3 + i) w).setCell (fun _ => hrg) _ _
  refine ⟨⟨h.cb.step hB hw (by omega) (Nat.le_refl _) ρ (fun _ _ => rfl) (fun j _ _ hj e => by omega) (fun t v e hr => ?_), o1, h.rv, h.ll⟩, y1, f1⟩
  have := (List.getElem?_eq_some_iff.1 e).1
  rw [h.ll] at this
  omega
structure Cu (mk : Nat → Value) (B0 X gh gw : Nat) (F : Value → Array Value) (hv wv : List Value) (Ws : List (List Value)) (w0 : World) (ρ : Nat → Nat) (w : World) (i q n : Nat) (v : Value) (vl : Value) (ls : List Value) : Prop where
  cb : Cb mk B0 X gh gw F hv wv Ws w0 ρ w (i + 1) vl ls
  ov : OwnM 1 w v n (List.replicate n (mk i))
  rv : ∀ g, v.ownBlock = some g → ρ g = 3 + i
  ll : ls.length = 40 * i + q
  sn : ∀ (t : Nat) (u : Value), ls[t]? = some u → t / 40 = i → ∃ a m c, u = .slice a m c ∧ m ≤ n
theorem Ca.done {mk : Nat → Value} {B0 X gh gw : Nat} {F : Value → Array Value} {hv wv : List Value} {Ws : List (List Value)} {w0 w : World} {ρ : Nat → Nat} {i : Nat} {v : Value} {W : List Value} {vl : Value} {ls : List Value} (h : Ca mk B0 X gh gw F hv wv Ws w0 ρ w i W.length v W vl ls) : Cu mk B0 X gh gw F hv wv Ws w0 ρ w i 0 W.length v vl ls where
  cb := h.cb
  ov := by
    have := h.ov
    rw [List.drop_length, List.append_nil] at this
    exact this
  rv := h.rv
  ll := h.ll
  sn := fun t u e hr => by
    have := (List.getElem?_eq_some_iff.1 e).1
    rw [h.ll] at this
    omega
theorem Cu.push {mk : Nat → Value} {B0 X gh gw : Nat} {F : Value → Array Value} {hv wv : List Value} {Ws : List (List Value)} {w0 w w' : World} {ρ : Nat → Nat} {i q n ix : Nat} {v vl vl' : Value} {ls : List Value} (h : Cu mk B0 X gh gw F hv wv Ws w0 ρ w i q n v vl ls) (hB : B0 ≤ w0.heap.size) (hF : ∀ v v', (F v).setIfInBounds ix v' = F v') (hq : q < 40)
    (hg : Grow w w' vl vl') (ho : OwnM 1 w' vl' (ls.length + 1) (ls ++ [v])) : Cu mk B0 X gh gw F hv wv Ws w0 (rx ρ w 2) (w'.setCell ⟨X, ix, none⟩ vl') i (q + 1) n v vl' (ls ++ [v]) := by
  have hd : ls.length / 40 = i := by rw [h.ll]; omega
  have hw : Wr ρ 2 w w' := Wr.grow hg h.cb.rl
  have hset : ∀ k, k ≠ X → (w'.setCell ⟨X, ix, none⟩ vl').heap[k]? = w'.heap[k]? := fun k hk => heap_setCell_other w' ⟨X, ix, none⟩ k vl' hk
  have both : ∀ k, k < w.heap.size → ρ k ≠ 2 → ρ k ≠ 1 → (w'.setCell ⟨X, ix, none⟩ vl').heap[k]? = w.heap[k]? := fun k hk h2 h1 => (hset k (fun e => h1 (by rw [e]; exact h.cb.rX))).trans (hw.block k hk h2)
  have hs2 : w.heap.size ≤ (w'.setCell ⟨X, ix, none⟩ vl').heap.size := by simpa [World.setCell] using hw.size
  have hmk := mkV h.ov
  constructor
  case cb => exact h.cb.push hB hF hg ho (by rw [hd]; exact hmk) (fun k hk => ⟨h.ov.lt k hk, by rw [hd]; exact h.rv k hk⟩)
  case ov => exact h.ov.kept hs2 (fun g hg' => both g (h.ov.lt g hg') (by rw [h.rv g hg']; omega) (by rw [h.rv g hg']; omega))
  case rv => exact fun g hg' => by rw [rx_old (h.ov.lt g hg')]; exact h.rv g hg'
  case ll => rw [List.length_append, h.ll]; rfl
  case sn =>
    intro t u e hr
    rw [List.getElem?_append] at e
    split at e
    · exact h.sn t u e hr
    · obtain ⟨a, c, e1, _, _⟩ := h.ov.shape
      have ht := (List.getElem?_eq_some_iff.1 e).1
      simp at ht
      rw [show t - ls.length = 0 by omega] at e
      obtain rfl : v = u := Option.some.inj e
      exact ⟨a, n, c, e1, Nat.le_refl _⟩
theorem Cu.grow {mk : Nat → Value} {B0 X gh gw : Nat} {F : Value → Array Value} {hv wv : List Value} {Ws : List (List Value)} {w0 w w' : World} {ρ : Nat → Nat} {i q n : Nat} {v v' vl : Value} {ls : List Value} (h : Cu mk B0 X gh gw F hv wv Ws w0 ρ w i q n v vl ls) (hB : B0 ≤ w0.heap.size)
    (hg : Grow w w' v v') (ho : OwnM 1 w' v' (n + 1) (List.replicate (n + 1) (mk i))) : Cu mk B0 X gh gw F hv wv Ws w0 (rx ρ w (3 + i)) w' i q (n + 1) v' vl ls := by
  have hw : Wr ρ (3 + i) w w' := Wr.grow hg h.rv
  constructor
  case cb =>
    refine h.cb.step hB hw (by omega) (Nat.le_refl _) _ (fun _ hk => rx_old hk) (fun j _ _ hj e => by omega) (fun t u e hr hM => ?_)
    obtain ⟨a0, m0, c0, e0, hm0⟩ := h.sn t u e (by omega)
    obtain ⟨a, m, c, e1, hm, hc⟩ := hM
    rw [e0] at e1
    injection e1 with e1 e2 e3
    subst e1 e2 e3
    refine ⟨a0, m0, c0, e0, hm, fun j hj => ?_⟩
    obtain ⟨g, ea, h3, h4⟩ := hc j hj
    have keep : w'.heap[g]? = w.heap[g]? → ∃ g', a0 = some ⟨g', 0, none⟩ ∧ g' < w'.heap.size ∧ w'.cell? ⟨g', j, none⟩ = some (mk (t / 40)) := fun e' =>
      ⟨g, ea, Nat.lt_of_lt_of_le h3 hg.size, (World.cell?_of_block (a := ⟨g, j, none⟩) e').trans h4⟩
    by_cases hv : v.ownBlock = some g
    · rcases hg.alt with e4 | ⟨_, e4⟩
      · obtain ⟨g1, c1, f1, f2, f3⟩ := ho.cell (rep_at (mk i) (n + 1) j (by omega))
        rw [hv] at e4
        have hg1 : g1 = g := by rw [f1] at e4; injection e4
        subst hg1
        have ht : t / 40 = i := by omega
        rw [ht]
        exact ⟨_, ea, f3, f2⟩
      · exact keep (e4 g h3)
    · exact keep (hg.old g h3 hv)
  case ov => exact ho
  case rv => exact Wr.own hg h.rv h.ov.lt
  case ll => exact h.ll
  case sn =>
    intro t u e hr
    obtain ⟨a, m, c, e1, e2⟩ := h.sn t u e hr
    exact ⟨a, m, c, e1, by omega⟩
end Gb
end Chn
end Go.Proofs.YtjcapdkibbjmiaaGreatDoor

namespace Go.Proofs.YtjcapdkibbjmiaaGreatDoor
open Go.RowKit Go.Shelf
namespace Chn
theorem nd356 : ndE [3, 5, 6] = 0 ∧ ndL [3, 5, 6] = [(2, 3), (3, 4), (0, 2), (4, 5), (5, 6)] := by decide +kernel
theorem nd4 : ndE [4] = 0 ∧ ndL [4] = [] := by decide +kernel
theorem nd22 : ndE [2, 2] = 130 ∧ ndL [2, 2] = [] := by decide +kernel
theorem hds4 : Hds [4] := by
  obtain ⟨hs, h1, h2⟩ := mayB_hds (cs := [4]) (by decide +kernel)
  have : hs = [4] := by rw [← ix_toN hs, ← h1]; rfl
  rw [← this]; exact h2
theorem ex12 : exE [1, 2] [] = 131 := by decide +kernel
theorem ck_x : ckO [1, 2] [Sha.sha [120]] [Sha.sha [120], Sha.sha [120]] = 132 := by decide +kernel
theorem at_one (w : World) (x : List UInt8) : At (w.alloc (.cells #[.string ⟨x.toArray⟩] 9)) (some ⟨w.heap.size, 0, none⟩) [x] := fun j p hp => by
  have h := heap_alloc_new w (.cells #[.string ⟨x.toArray⟩] 9)
  refine ⟨_, rfl, lt_of_heap h, ?_⟩
  rw [Addr.add_mid, Nat.zero_add, cell_of_row _ _ _ _ _ _ h]
  match j, hp with
  | 0, hp => simp at hp; subst hp; rfl
  | j + 1, hp => simp at hp
theorem at_twoC (w : World) (x z : List UInt8) : At (w.alloc (.cells #[.string ⟨x.toArray⟩, .string ⟨z.toArray⟩] 9)) (some ⟨w.heap.size, 0, none⟩) [x, z] := fun j p hp => by
  have h := heap_alloc_new w (.cells #[.string ⟨x.toArray⟩, .string ⟨z.toArray⟩] 9)
  refine ⟨_, rfl, lt_of_heap h, ?_⟩
  rw [Addr.add_mid, Nat.zero_add, cell_of_row _ _ _ _ _ _ h]
  match j, hp with
  | 0, hp => simp at hp; subst hp; rfl
  | 1, hp => simp at hp; subst hp; rfl
  | j + 2, hp => simp at hp
abbrev five : List (Int × Int) := [(2, 3), (3, 4), (0, 2), (4, 5), (5, 6)]
abbrev fiveO : Obj := .cells #[.int .i64 2, .int .i64 3, .int .i64 3, .int .i64 4, .int .i64 0, .int .i64 2, .int .i64 4, .int .i64 5, .int .i64 5, .int .i64 6] 60
theorem five_at (w : World) : AtP (w.alloc fiveO) (some ⟨w.heap.size, 0, none⟩) five := AtP.lit w five 60
theorem own_five {w : World} {a : Option Addr} {k : Nat} (h : OwnM 2 w (.slice a 5 k) 5 (prs [(2, 3), (3, 4), (0, 2), (4, 5), (5, 6)])) : AtP w a five := OwnP.atP (l := [(2, 3), (3, 4), (0, 2), (4, 5), (5, 6)]) h
theorem five_yes (w : World) (a : Option Addr) (k1 : Nat) (h : AtP (w.alloc fiveO) a five) : Calls Tryz.prog 22 #[.slice a 5 k1, .slice (some ⟨w.heap.size, 0, none⟩) 5 5] (w.alloc fiveO) fun e w' => e = .returned (.bool true) ∧ Below w.heap.size w w' := by
  have b0 := (Below.refl w.heap.size w).alloc (Nat.le_refl _) fiveO
  refine (spans_yes five a (some ⟨w.heap.size, 0, none⟩) k1 5 _ (by decide) h (five_at w)).mono ?_
  rintro r w' ⟨rfl, b1⟩
  exact ⟨rfl, b0.trans (b1.mono b0.size)⟩
set_option maxRecDepth 100000 in
set_option maxHeartbeats 2000000 in
theorem known13_any (w : World) (T : Tabs w) : Calls Tryz.prog 5 #[] w fun e w' => e = .returned (.bool true) ∧ Below w.heap.size w w' := by
  have i1 := fun w' => nodes13_any [3, 5, 6] 3 rfl (some ⟨w'.heap.size, 0, none⟩) 3 _ (AtI.lit w' [3, 5, 6] 3) (by omega)
  have i2 := fun w' => nodes13_any [4] 1 rfl (some ⟨w'.heap.size, 0, none⟩) 1 _ (AtI.lit w' [4] 3) (by omega)
  have i3 := fun w' => nodes13_any [2, 2] 2 rfl (some ⟨w'.heap.size, 0, none⟩) 2 _ (AtI.lit w' [2, 2] 3) (by omega)
  rw [nd356.1, nd356.2] at i1
  rw [nd4.1, nd4.2] at i2
  rw [nd22.1, nd22.2] at i3
  have b9 : ∀ (w' : World) (o : Obj), Below w.heap.size w w' → Below w.heap.size w (w'.alloc o) := fun w' o h => h.alloc h.size _
  have i4 := fun w' (bb : Below w.heap.size w w') => expandC_ok [4] hds4 [] 1 0 rfl rfl (by unfold Hid; decide +kernel) (some ⟨w'.heap.size, 0, none⟩) none 1 0 _ (AtI.lit w' [4] 3) (At.nil _ _) rfl (T.below (b9 w' _ bb) T.lt)
  have e4 : exL [4] [] = [] := rfl
  rw [e4] at i4
  have i5 := fun w' => expandC_bad [1, 2] [] 2 0 rfl rfl (some ⟨w'.heap.size, 0, none⟩) none 2 0 _ (AtI.lit w' [1, 2] 3) (At.nil _ _) (by omega) (by omega) (by rw [ex12]; decide)
  rw [ex12] at i5
  have i6 := fun w' v (bb : OwnP w' v [(2, 3), (3, 4), (0, 2), (4, 5), (5, 6)]) => (show ∃ a c, v = .slice a 5 c ∧ AtP w' a [(2, 3), (3, 4), (0, 2), (4, 5), (5, 6)] by
    obtain ⟨a, c, rfl, _, _⟩ := bb.shape
    exact ⟨a, c, rfl, bb.atP⟩)
  have i7 := fun w' => hash8_any ⟨#[120]⟩ (by decide) w'
  obtain ⟨X, hX⟩ : ∃ X, Sha.sha (⟨#[120]⟩ : ByteArray).data.toList = X := ⟨_, rfl⟩
  have hck : ckO [1, 2] [X] [X, X] = 132 := by rw [← hX]; exact ck_x
  rw [hX] at i7
  have i8 := fun w' (bb : Below w.heap.size w w') => checkC_any [1, 2] [X] [X, X] 2 1 2 rfl rfl rfl (some ⟨w'.heap.size, 0, none⟩) (some ⟨w'.heap.size + 1, 0, none⟩) (some ⟨w'.heap.size + 1 + 1, 0, none⟩) 2 1 2 (((w'.alloc (.cells #[.int .i64 1, .int .i64 2] 3)).alloc (.cells #[.string ⟨X.toArray⟩] 9)).alloc (.cells #[.string ⟨X.toArray⟩, .string ⟨X.toArray⟩] 9))
    (((AtI.lit w' [1, 2] 3).below ((Below.refl _ _).alloc (Nat.le_refl _) _) (Nat.le_refl _)).below ((Below.refl _ _).alloc (Nat.le_refl _) _) (Nat.le_refl _))
    (by have h := at_one (w'.alloc (.cells #[.int .i64 1, .int .i64 2] 3)) X; rw [size_alloc] at h; exact h.below ((Below.refl _ _).alloc (Nat.le_refl _) _) (Nat.le_refl _))
    (by have h := at_twoC ((w'.alloc (.cells #[.int .i64 1, .int .i64 2] 3)).alloc (.cells #[.string ⟨X.toArray⟩] 9)) X X; rw [size_alloc, size_alloc] at h; exact h)
    (T.below (b9 _ _ (b9 _ _ (b9 w' _ bb))) T.lt) (by omega) (by omega) (by omega)
  rw [hck] at i8
  rw [show sv X = .string ⟨X.toArray⟩ from rfl] at i7
  generalize (⟨X.toArray⟩ : ByteArray) = XB at *
  simp only [List.map_cons, List.map_nil] at i1 i2 i3 i4 i5
  have HB9 := hid b9
  clear hX hck b9 e4
  go_enter Tryz.func5, Tryz.ntmps5
  go_wp2_with (first
    | (go_at_call 20; (with_reducible refine (i1 _).mono ?_); rintro r w1 ⟨b1, v1, rfl, O1, _⟩; have c1' := HB9.out w (.cells #[.int .i64 3, .int .i64 5, .int .i64 6] 3) (Below.refl _ _); have B1 := hid (c1'.trans (b1.mono c1'.size)); have HO1 := hid O1; obtain ⟨a1, k1, rfl, _, _⟩ := (show OwnM 2 w1 v1 5 (prs [(2, 3), (3, 4), (0, 2), (4, 5), (5, 6)]) from O1).shape; clear b1 O1 c1')
    | (go_at_call 20; (with_reducible refine (i2 _).mono ?_); rintro r w2 ⟨b2, v2, rfl, O2, _⟩; have c2' := (Below.refl w1.heap.size w1).alloc (Nat.le_refl _) (.cells #[.int .i64 4] 3); have d2 := c2'.trans (b2.mono c2'.size); have B2 := hid (B1.out.trans (d2.mono B1.out.size)); have HO2 := hid (HO1.out.below d2); obtain ⟨a2, k2, rfl, _, _⟩ := (show OwnM 2 w2 v2 0 (prs []) from O2).shape; clear b2 O2 c2' d2)
    | (go_at_call 20; (with_reducible refine (i3 _).mono ?_); rintro r w3 ⟨b3, v3, rfl, O3, _⟩; have c3' := (Below.refl w2.heap.size w2).alloc (Nat.le_refl _) (.cells #[.int .i64 2, .int .i64 2] 3); have d3 := c3'.trans (b3.mono c3'.size); have B3 := hid (B2.out.trans (d3.mono B2.out.size)); have HO3 := hid (HO2.out.below d3); obtain ⟨a3, k3, rfl, _, _⟩ := (show OwnM 2 w3 v3 0 (prs []) from O3).shape; clear b3 O3 c3' d3)
    | (go_at_call 21; (with_reducible refine (i4 _ B3.out).mono ?_); rintro r w4 ⟨G, gs, rfl, _, _, _, _, b4⟩; have c4' := (Below.refl w3.heap.size w3).alloc (Nat.le_refl _) (.cells #[.int .i64 4] 3); have d4 := c4'.trans (b4.mono c4'.size); have B4 := hid (B3.out.trans (d4.mono B3.out.size)); have HO4 := hid (HO3.out.below d4); clear b4 c4' d4)
    | (go_at_call 21; (with_reducible refine (i5 _).mono ?_); rintro r w5 ⟨rfl, b5⟩; have c5' := (Below.refl w4.heap.size w4).alloc (Nat.le_refl _) (.cells #[.int .i64 1, .int .i64 2] 3); have d5 := c5'.trans (b5.mono c5'.size); have B5 := hid (B4.out.trans (d5.mono B4.out.size)); have HO5 := hid (HO4.out.below d5); clear b5 c5' d5)
    | (go_at_call 22; (refine (five_yes w5 a1 k1 (own_five (HO5.out.below ((Below.refl w5.heap.size w5).alloc (Nat.le_refl _) fiveO)))).mono ?_); rintro r w6 ⟨rfl, b6⟩; have B6 := hid (B5.out.trans (b6.mono B5.out.size)); clear b6)
    | (go_at_call 11; refine (i7 _).mono ?_; rintro r w7 ⟨rfl, b7⟩; have B7 := hid (B6.out.trans (b7.mono B6.out.size)); clear b7)
    | (go_at_call 23; refine (i8 _ B7.out).mono ?_; rintro r w8 ⟨rfl, b8⟩; have c8' := HB9.out _ (.cells #[.string XB, .string XB] 9) (HB9.out _ (.cells #[.string XB] 9) (HB9.out _ (.cells #[.int .i64 1, .int .i64 2] 3) B7.out)); have B8 := hid (c8'.trans (b8.mono c8'.size)); clear b8 c8'))
  go_ret
  exact ⟨rfl, B8.out⟩
end Chn
end Go.Proofs.YtjcapdkibbjmiaaGreatDoor

namespace Go.Proofs.YtjcapdkibbjmiaaGreatDoor
open Go.RowKit
abbrev rng (b e : Int) (v : Value) : Value := .agg #[.int .i64 b, .int .i64 e, v]
end Go.Proofs.YtjcapdkibbjmiaaGreatDoor

namespace Go.Proofs.YtjcapdkibbjmiaaGreatDoor
open Go.RowKit
structure Nl (w : World) (q : Nat) (C : Array Value) (ty : TypeId) (v : Value) (H : List (List UInt8)) : Prop where
  row : w.heap[q]? = some (.cells C ty (0, 0))
  at0 : C[0]? = some v
  own : Own w 0 v (svs H)
  ne : v.ownBlock ≠ some q
theorem and1_i64 (E : Nat) (hE : E < 9223372036854775808) : bits .and .i64 (E : Int) 1 = ((E % 2 : Nat) : Int) := by
  have h1 : (BitVec.ofInt 64 (E : Int)).toNat = E := by
    rw [BitVec.ofInt_natCast, BitVec.toNat_ofNat]; exact Nat.mod_eq_of_lt (by omega)
  have h2 : (BitVec.ofInt 64 (1 : Int)).toNat = 1 := by decide
  show IntKind.i64.wrap ((BitVec.ofInt 64 (E : Int) &&& BitVec.ofInt 64 (1 : Int)).toNat : Int) = _
  rw [BitVec.toNat_and, h1, h2, Nat.and_one_is_mod]
  exact wrap_small _ (by omega) (by omega)
theorem bit_is {b k : Nat} (hb : b < 9223372036854775808) : bits .and .i64 ((b : Int) / 2 ^ k) 1 = ((b / 2 ^ k % 2 : Nat) : Int) := by
  have e : ((b : Int) / 2 ^ k) = ((b / 2 ^ k : Nat) : Int) := by simp
  rw [e]
  exact and1_i64 _ (Nat.lt_of_le_of_lt (Nat.div_le_self _ _) hb)
end Go.Proofs.YtjcapdkibbjmiaaGreatDoor

namespace Go.Proofs.YtjcapdkibbjmiaaGreatDoor
open Go.RowKit
structure Mov (F : Nat → Prop) (w w' : World) (F' : Nat → Prop) : Prop where
  keep : Keep F w w'
  new : ∀ k, F' k → F k ∨ w.heap.size ≤ k
end Go.Proofs.YtjcapdkibbjmiaaGreatDoor

namespace Go.Proofs.YtjcapdkibbjmiaaGreatDoor
open Go.RowKit
namespace Cut
open Tree
end Cut
theorem Mov.below {F F' : Nat → Prop} {w w' : World} {B : Nat} (h : Mov F w w' F') (hB : B ≤ w.heap.size) (hF : ∀ k, F k → B ≤ k) : Below B w w' ∧ ∀ k, F' k → B ≤ k := by
  refine ⟨⟨h.keep.os, h.keep.tape, h.keep.output, h.keep.size, fun k hk => h.keep.block k (by omega) fun e => ?_⟩, fun k hk => ?_⟩
  · have := hF k e; omega
  · rcases h.new k hk with e | e
    · exact hF k e
    · omega
end Go.Proofs.YtjcapdkibbjmiaaGreatDoor

namespace Go.Proofs.YtjcapdkibbjmiaaGreatDoor
open Go.RowKit
theorem Mp.keys {w : World} {b : Nat} {es : List ((Int × Int) × Value)} (h : Mp w b es) : es.Pairwise (fun x y => x.1 ≠ y.1) := by
  obtain ⟨_, _, _, _, _, _, h, _⟩ := h
  exact h
def Fb (q b : Nat) (es : List ((Int × Int) × Value)) (k : Nat) : Prop := k = q ∨ k = b ∨ ∃ p v, (p, v) ∈ es ∧ v.ownBlock = some k
structure Tr (w : World) (q b h s : Nat) (es : List ((Int × Int) × Value)) (R : Int × Int → List (List UInt8)) : Prop where
  row : w.heap[q]? = some (.cells #[.int .i64 (h : Int), .int .i64 (s : Int), .map (some b)] 74 (0, 0))
  mp : Mp w b es
  qb : q ≠ b
  el : ∀ p v, (p, v) ∈ es → Own w 0 v (svs (R p)) ∧ ∀ k, v.ownBlock = some k → k ≠ q ∧ k ≠ b
  no : ∀ p, ¬ has es p → R p = []
  apart : ∀ p v p' v' k, (p, v) ∈ es → (p', v') ∈ es → p ≠ p' → v.ownBlock = some k → v'.ownBlock ≠ some k
theorem Own.ltS {w : World} {base : Nat} {v : Value} {cs : List Value} (h : Own w base v cs) : ∀ k, v.ownBlock = some k → k < w.heap.size := by
  rcases h with ⟨rfl, _⟩ | ⟨g, cap, rfl, _, _, _, _, _, h6⟩
  · intro k hk; cases hk
  · intro k hk; cases hk; exact h6
theorem Tr.lt {w : World} {q b h s : Nat} {es : List ((Int × Int) × Value)} {R : Int × Int → List (List UInt8)} (t : Tr w q b h s es R) : ∀ k, Fb q b es k → k < w.heap.size := fun k hk => by
  rcases hk with rfl | rfl | ⟨p, v, hm, hk⟩
  · exact (Array.getElem?_eq_some_iff.1 t.row).1
  · exact t.mp.lt
  · exact (t.el p v hm).1.ltS k hk
theorem Tr.keep {w w' : World} {q b h s : Nat} {es : List ((Int × Int) × Value)} {R : Int × Int → List (List UInt8)} {S : Nat → Prop} (t : Tr w q b h s es R) (hk : Keep S w w') (hd : ∀ k, Fb q b es k → ¬ S k) : Tr w' q b h s es R := by
  have e : ∀ k, Fb q b es k → w'.heap[k]? = w.heap[k]? := fun k hf => hk.block k (t.lt k hf) (hd k hf)
  refine ⟨(e q (.inl rfl)).trans t.row, t.mp.heap (e b (.inr (.inl rfl))), t.qb, fun p v hm => ⟨?_, (t.el p v hm).2⟩, t.no, t.apart⟩
  exact (t.el p v hm).1.kept hk.size fun g hg => e g (.inr (.inr ⟨p, v, hm, hg⟩))
theorem Tr.below {w w' : World} {q b h s : Nat} {es : List ((Int × Int) × Value)} {R : Int × Int → List (List UInt8)} (t : Tr w q b h s es R) (hb : Below w.heap.size w w') : Tr w' q b h s es R :=
  t.keep (S := fun k => w.heap.size ≤ k) ⟨hb.os, hb.tape, hb.output, hb.size, fun k hk _ => hb.block k hk⟩ (fun k hk e => by have := t.lt k hk; omega)
theorem Tr.c0 {w : World} {q b h s : Nat} {es : List ((Int × Int) × Value)} {R : Int × Int → List (List UInt8)} (t : Tr w q b h s es R) : w.cell? ⟨q, 0, none⟩ = some (.int .i64 (h : Int)) := by rw [cell_of_row _ _ _ _ _ _ t.row]; rfl
theorem Tr.c1 {w : World} {q b h s : Nat} {es : List ((Int × Int) × Value)} {R : Int × Int → List (List UInt8)} (t : Tr w q b h s es R) : w.cell? ⟨q, 1, none⟩ = some (.int .i64 (s : Int)) := by rw [cell_of_row _ _ _ _ _ _ t.row]; rfl
theorem Tr.c2 {w : World} {q b h s : Nat} {es : List ((Int × Int) × Value)} {R : Int × Int → List (List UInt8)} (t : Tr w q b h s es R) : w.cell? ⟨q, 2, none⟩ = some (.map (some b)) := by rw [cell_of_row _ _ _ _ _ _ t.row]; rfl
theorem Tr.f1 {w : World} {q b h s : Nat} {es : List ((Int × Int) × Value)} {R : Int × Int → List (List UInt8)} (t : Tr w q b h s es R) : w.frozen? ⟨q, 1, none⟩ = false := frozen_of_row _ _ _ _ _ t.row
theorem Tr.at {w : World} {q b h s : Nat} {es : List ((Int × Int) × Value)} {R : Int × Int → List (List UInt8)} (t : Tr w q b h s es R) (p : Int × Int) : Own w 0 (look es p) (svs (R p)) ∧ ∀ k, (look es p).ownBlock = some k → Fb q b es k ∧ k ≠ q ∧ k ≠ b := by
  by_cases hp : has es p
  · obtain ⟨v, hv⟩ := hp
    rw [look_mem t.mp.keys hv]
    exact ⟨(t.el p v hv).1, fun k hk => ⟨.inr (.inr ⟨p, v, hv, hk⟩), (t.el p v hv).2 k hk⟩⟩
  · rw [look_none hp, t.no p hp]
    exact ⟨Own.nil _ _, fun k hk => (by cases hk)⟩
theorem tOrNone_any (q : Nat) (w : World) : Calls Tryz.prog 61 #[.pointer (some ⟨q, 0, none⟩)] w fun r w' => r = .returned (.pointer (some ⟨q, 0, none⟩)) ∧ w' = w := by
  go_enter Tryz.func61, Tryz.ntmps61
  go_wp2
  go_ret
  exact ⟨rfl, rfl⟩
theorem tSize_any {w : World} {q b h s : Nat} {es : List ((Int × Int) × Value)} {R : Int × Int → List (List UInt8)} (t : Tr w q b h s es R) : Calls Tryz.prog 54 #[.pointer (some ⟨q, 0, none⟩)] w fun r w' => r = .returned (.int .i64 (s : Int)) ∧ w' = w := by
  have h0 := t.c1
  go_enter Tryz.func54, Tryz.ntmps54
  go_wp2_with (go_at_call 61; refine (tOrNone_any q w).mono ?_; rintro e w' ⟨rfl, rfl⟩)
  go_ret
  exact ⟨rfl, rfl⟩
theorem tHeight_any {w : World} {q b h s : Nat} {es : List ((Int × Int) × Value)} {R : Int × Int → List (List UInt8)} (t : Tr w q b h s es R) : Calls Tryz.prog 34 #[.pointer (some ⟨q, 0, none⟩)] w fun r w' => r = .returned (.int .i64 (h : Int)) ∧ w' = w := by
  have h0 := t.c0
  go_enter Tryz.func34, Tryz.ntmps34
  go_wp2_with (go_at_call 61; refine (tOrNone_any q w).mono ?_; rintro e w' ⟨rfl, rfl⟩)
  go_ret
  exact ⟨rfl, rfl⟩
end Go.Proofs.YtjcapdkibbjmiaaGreatDoor

namespace Go.Proofs.YtjcapdkibbjmiaaGreatDoor
open Go.RowKit
theorem results_row_tmp {P : Program} {fn : Func} {p u : Tmp} {ty : TypeId} (h : fn.results = #[.cell p ty, .tmp u]) (tmps : Array Value) (w : World) (g : Nat) (t : TypeId) (cs : Array Value) (fr : Nat × Nat) (d : TypeDesc)
    (hp : tmps.getD p undef = .pointer (some ⟨g, 0, none⟩)) (hg : w.heap[g]? = some (.cells cs t fr))
    (hu : P.underlying ty = some d) (hd : (match d with | .struct _ | .array _ _ => true | _ => false) = true) (hi : (P.info? ty).map (·.size) = some cs.size) :
    (results fn tmps).run P w = .ok (.tuple #[.agg cs, tmps.getD u undef]) w := by
  rw [results_cell_tmp h, hp]
  simp [asAddr, run_loadVar_row w g t ty cs fr d hg hu hd hi, Result.andThen]
abbrev rng0 : Value := .agg #[.int .i64 0, .int .i64 0, .slice none 0 0]
end Go.Proofs.YtjcapdkibbjmiaaGreatDoor
