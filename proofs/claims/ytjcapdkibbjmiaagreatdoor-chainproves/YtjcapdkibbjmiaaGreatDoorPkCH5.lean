import Derived.Test.YtjcapdkibbjmiaaGreatDoorPkCH2
import Derived.Test.YtjcapdkibbjmiaaGreatDoorPkCG6
import Derived.Test.YtjcapdkibbjmiaaGreatDoorPkCH4
import Derived.Test.YtjcapdkibbjmiaaGreatDoorPkCR1
import Derived.Test.YtjcapdkibbjmiaaGreatDoorPkFL2
import Derived.Deep.DeepCutAuto
import Derived.Deep.CutRange
import Derived.Test.YtjcapdkibbjmiaaGreatDoorPkFR1
import Derived.Test.YtjcapdkibbjmiaaGreatDoorPkO3
import Derived.Lib.SmallJoins
/- Layer 13, the law: the book's still, of a book that holds both -/
namespace Go.Proofs.YtjcapdkibbjmiaaGreatDoor
open Go.RowKit Go.Shelf
namespace Chn
namespace Gb
theorem own_someG {m : Nat} {w : World} {v : Value} {n : Nat} {cs : List Value} (h : OwnM m w v n cs) (hn : 0 < n) : ∃ g c, v = .slice (some ⟨g, 0, none⟩) n c ∧ n ≤ c ∧ w.rangeAt g 0 cs ∧ g < w.heap.size := by
  rcases h with ⟨_, rfl, _⟩ | ⟨g, c, rfl, h1, h2, h3, h4, h5, h6⟩
  · omega
  · exact ⟨g, c, rfl, h1, h4, h6⟩
theorem own_blk {w : World} {a : Option Addr} {n c m : Nat} {cs : List Value} (h : OwnM 1 w (.slice a n c) m cs) : ∀ x : Addr, a = some x → ∃ g, x = ⟨g, 0, none⟩ := fun x hx => by
  subst hx
  rcases h with ⟨q, _⟩ | ⟨g, cap, q, _⟩
  · cases q
  · injection q with q; injection q with q; exact ⟨g, q⟩
theorem Hf.cb {m w : World} {ρ σ : Nat → Nat} {v u : Value} {hv wv : List Value} {Ws : List (List Value)} {rv ru rb : Nat} (h : Hf m w ρ v u hv wv Ws rv ru rb) {mk : Nat → Value} {B0 X gh kh gw kw : Nat} {F : Value → Array Value} (e1 : v = .slice (some ⟨gh, 0, none⟩) hv.length kh) (e2 : u = .slice (some ⟨gw, 0, none⟩) wv.length kw)
    (row : w.heap[X]? = some (.cells (F (.slice none 0 0)) 35 (0, 0))) (s0 : ∀ k, k < B0 → σ k = 0) (s1 : σ X = 1) (s2 : ∀ k, k < w.heap.size → ρ k = rv ∨ ρ k = ru ∨ ρ k = 0 → σ k = 0) (s3 : ∀ j k, j < 900 → k < w.heap.size → ρ k = rb + j → σ k = 3 + j) :
    Cb mk B0 X gh gw F hv wv Ws w σ w 0 (.slice none 0 0) [] := by
  subst e1
  subst e2
  have le := h.le
  constructor
  case bel => exact Below.refl _ _
  case low => exact s0
  case fr0 => exact fun k _ _ => rfl
  case row => exact row
  case rX => exact s1
  case hr =>
    rcases h.oh with ⟨q, _⟩ | ⟨g, c, q, _, _, _, h4, _⟩
    · cases q
    · injection q with q; injection q with q; injection q with q; subst q; exact h4
  case rh => exact s2 gh (h.oh.lt gh rfl) (.inl (h.rh gh rfl))
  case lh => exact h.oh.lt gh rfl
  case wr =>
    rcases h.ow with ⟨q, _⟩ | ⟨g, c, q, _, _, _, h4, _⟩
    · cases q
    · injection q with q; injection q with q; injection q with q; subst q; exact h4
  case rw_ => exact s2 gw (h.ow.lt gw rfl) (.inr (.inl (h.rw_ gw rfl)))
  case lw => exact h.ow.lt gw rfl
  case want =>
    intro j W e
    obtain ⟨x, f1, f2, f3⟩ := h.want j W e
    obtain ⟨a, c, f4, f5⟩ := AtV.own f2
    subst f4
    refine ⟨a, c, f1, f5, fun y hy => ?_⟩
    obtain ⟨g, rfl⟩ := own_blk f2 y hy
    subst hy
    exact ⟨f2.lt g rfl, s2 g (f2.lt g rfl) (.inr (.inr (f3 g rfl)))⟩
  case own =>
    intro j W _ e
    have hj := (List.getElem?_eq_some_iff.1 e).1
    obtain ⟨x, f1, f2, f3⟩ := h.own j W e
    exact ⟨x, f1, f2, fun k hk => s3 j k (by omega) (f2.lt k hk) (f3 k hk)⟩
  case ol => exact OwnM.nil 1 _
  case rl => exact fun k hk => by cases hk
  case mrk => exact fun t x e => by cases e
theorem Hf.okI {m w : World} {ρ : Nat → Nat} {v u : Value} {hv wv : List Value} {Ws : List (List Value)} {rv ru rb : Nat} (h : Hf m w ρ v u hv wv Ws rv ru rb) {gh kh gw kw : Nat} (e1 : v = .slice (some ⟨gh, 0, none⟩) hv.length kh) (e2 : u = .slice (some ⟨gw, 0, none⟩) wv.length kw) (ti : ∀ W ∈ Ws, IOK W) {j : Nat} (hj : j < Ws.length) : OkI w (some ⟨gh, 0, none⟩) (some ⟨gw, 0, none⟩) j := by
  obtain ⟨W, hW⟩ : ∃ W, Ws[j]? = some W := ⟨_, List.getElem?_eq_getElem hj⟩
  obtain ⟨hl, l, rfl⟩ := ti W (List.mem_of_getElem? hW)
  obtain ⟨x, f1, f2, f3⟩ := h.own j _ hW
  obtain ⟨y, k1, k2, k3⟩ := h.want j _ hW
  obtain ⟨a, c, f4, f5⟩ := AtV.own f2
  obtain ⟨a', c', k4, k5⟩ := AtV.own k2
  subst f4
  subst k4
  obtain ⟨g1, c1, q1, q2, q3⟩ := h.oh.cell f1
  obtain ⟨g2, c2, r1, r2, r3⟩ := h.ow.cell k1
  rw [e1] at q1
  rw [e2] at r1
  injection q1 with q1
  injection q1 with q1
  injection q1 with q1
  injection r1 with r1
  injection r1 with r1
  injection r1 with r1
  subst q1
  subst r1
  have hsl : (l.map fun x => Value.int .i64 x).length = l.length := by simp
  rw [hsl] at q2 r2
  exact ⟨l, gh, gw, a, c, a', c', rfl, rfl, q3, r3, q2, r2, atN f5, atN k5, by omega⟩
def r0 (ρ : Nat → Nat) : Nat → Nat := fun k => if ρ k = 1 ∨ (3 ≤ ρ k ∧ ρ k < 1000) then ρ k else 0
def rI (ρ : Nat → Nat) (w : World) (X : Nat) : Nat → Nat := fun k => if k < w.heap.size ∧ 3000 ≤ ρ k ∧ ρ k < 4000 then ρ k - 2997 else if k = X then 1 else 0
theorem Bd.still {B0 X : Nat} {m w : World} {ρ : Nat → Nat} {vh vw vi vj : Value} {hT wT hI wI : List Value} {WT WI : List (List Value)} (d : Bd B0 X m ρ w vh vw vi vj hT wT hI wI WT WI) (t1 : 0 < WT.length) (t2 : WT.length ≤ 100) (i1 : 0 < WI.length) (i2 : WI.length ≤ 100) (tx : ∀ W ∈ WT, TOK W) (ti : ∀ W ∈ WI, IOK W) :
    Calls Tryz.prog 14 #[.pointer (some ⟨X, 0, none⟩)] w fun r w' => r = .returned (.bool true) ∧ Below B0 w w' := by
  obtain ⟨gh, kH, e1, a1, _, _⟩ := own_someG d.t.oh (by rw [d.t.lh]; exact t1)
  obtain ⟨gw, kW, e2, a2, _, _⟩ := own_someG d.t.ow (by rw [d.t.lw]; exact t1)
  obtain ⟨gi, kI, e3, a3, _, _⟩ := own_someG d.i.oh (by rw [d.i.lh]; exact i1)
  obtain ⟨gj, kJ, e4, a4, _, _⟩ := own_someG d.i.ow (by rw [d.i.lw]; exact i1)
  have lB : B0 ≤ w.heap.size := Nat.le_trans d.lB d.bel.size
  have hXl := lt_of_heap d.row
  have hBX := d.B0X
  have row : w.heap[X]? = some (.cells (fT gh kH gw kW WT.length gi kI gj kJ WI.length (.slice none 0 0)) 35 (0, 0)) := by
    rw [d.row, e1, e2, e3, e4, d.t.lh, d.t.lw, d.i.lh, d.i.lw]; rfl
  have z0 : ∀ k, ρ k = 0 ∨ 2000 ≤ ρ k ∨ ρ k = 2 → r0 ρ k = 0 := fun k hk => by unfold r0; rw [if_neg (by omega)]
  have hcb := d.t.cb (σ := r0 ρ) (mk := mkT) (B0 := B0) (X := X) (F := fT gh kH gw kW WT.length gi kI gj kJ WI.length) e1 e2 row (fun k hk => z0 k (.inl (d.low k hk))) (by unfold r0; rw [if_pos (.inl d.rX)]; exact d.rX) (fun k _ hr => z0 k (by omega)) (fun j k hj _ hr => by unfold r0; rw [if_pos (by omega)]; exact hr)
  have keepI : ∀ w' : World, w.heap.size ≤ w'.heap.size → (∀ k, k < w.heap.size → r0 ρ k = 0 → w'.heap[k]? = w.heap[k]?) → Hf m w' ρ vi vj hI wI WI 2001 2002 3000 := fun w' hs hb => d.i.kept hs (fun _ _ => rfl) fun k hk hr => hb k hk (z0 k (by rcases hr with e | e | e | ⟨j, hj, e⟩ <;> omega))
  refine still_TI B0 X gh kH gw kW WT.length gi kI gj kJ WI.length hT wT hI wI WT WI w (r0 ρ) hcb lB rfl rfl t2 i2 (by rw [← d.t.lh]; exact a1) (by rw [← d.t.lw]; exact a2) (by rw [← d.i.lh]; exact a3) (by rw [← d.i.lw]; exact a4) tx ti (fun w' hs hb j hj => (keepI w' hs hb).okI e3 e4 ti hj) (fun w1 VL hs hb hr => ?_)
  have hi := keepI w1 hs hb
  have hlt : ∀ (j : Nat) (x : Value) (k : Nat), hI[j]? = some x → x.ownBlock = some k → k < w.heap.size := fun j x k hx hk => by
    obtain ⟨W, hW⟩ : ∃ W, WI[j]? = some W := ⟨_, List.getElem?_eq_getElem (by have := (List.getElem?_eq_some_iff.1 hx).1; have := d.i.lh; omega)⟩
    obtain ⟨x', f1, f2, _⟩ := d.i.own j W hW
    rw [hx] at f1
    obtain rfl := Option.some.inj f1
    exact f2.lt k hk
  refine ⟨rI ρ w X, ?_, fun k hk hne hor => ?_⟩
  · have H : Hf m w1 (fun k => if k < w.heap.size then ρ k else 1) vi vj hI wI WI 2001 2002 3000 := by
      have h0 := d.i.kept (w' := w1) (ρ' := fun k => if k < w.heap.size then ρ k else 1) hs (fun k hk => if_pos hk) (fun k hk hr => hb k hk (z0 k (by rcases hr with e | e | e | ⟨j, hj, e⟩ <;> omega)))
      exact h0
    refine H.cb (σ := rI ρ w X) (mk := mkI) e3 e4 ?_ (fun k hk => ?_) ?_ (fun k hk hr => ?_) (fun j k hj hk hr => ?_)
    · rw [hr]; rfl
    · unfold rI
      rw [if_neg (by rw [d.low k hk]; omega), if_neg (by omega)]
    · unfold rI
      rw [if_neg (by rw [d.rX]; omega), if_pos rfl]
    · unfold rI
      by_cases hkw : k < w.heap.size
      · simp only [if_pos hkw] at hr
        rw [if_neg (by omega), if_neg (fun e => by rw [e, d.rX] at hr; omega)]
      · simp only [if_neg hkw] at hr
        omega
    · unfold rI
      by_cases hkw : k < w.heap.size
      · simp only [if_pos hkw] at hr
        rw [if_pos ⟨hkw, by omega, by omega⟩]
        omega
      · simp only [if_neg hkw] at hr
        omega
  · unfold rI
    rw [if_neg, if_neg hne]
    rintro ⟨h1, h2, h3⟩
    rcases hor with e | e
    · omega
    · exact e (z0 k (by omega))
end Gb
end Chn
end Go.Proofs.YtjcapdkibbjmiaaGreatDoor

/- Layer 13, the law: few; the state of ChainProves' walk (written by genCH6.py) -/
namespace Go.Proofs.YtjcapdkibbjmiaaGreatDoor
open Go.RowKit Go.Shelf
namespace Chn
namespace Gb
set_option maxRecDepth 100000 in
set_option maxHeartbeats 2000000 in
theorem few13_any (ps : List Int) (n : Nat) (hn : Hid (ps.length = n)) (a : Option Addr) (cap : Nat) (w : World) (ln : n ≤ 17592186044400) (hA : AtI w a ps) :
    Calls Tryz.prog 8 #[.slice a n cap] w fun r w' => (∃ b, r = .returned (.bool b)) ∧ Below w.heap.size w w' := by
  have i1 := rHeads_any ps n hn a cap w (by omega) hA
  have i2 := fun w' (h : AtI w' a ps) => next13_any ps n hn a cap w' ln h
  have HA := hid hA
  have HM := hid (show (ps.map inc8).length = n by rw [List.length_map]; exact hn.out)
  have i3 := fun w' (a : Option Addr) (cap : Nat) (h : AtI w' a (ps.map inc8)) => rHeads_any (ps.map inc8) n HM a cap w' (by omega) h
  generalize mayB ps = B1 at *
  generalize mayB (ps.map inc8) = B2 at *
  clear hA
  go_enter Tryz.func8, Tryz.ntmps8
  go_wp2_with (go_at_call 26; fail)
  refine i1.mono ?_
  rintro r w1 ⟨rfl, b1⟩
  have HB1 := hid b1
  clear b1 i1
  go_wp2_with (go_at_call 27; fail)
  refine (i2 w1 (HA.out.below HB1.out (Nat.le_refl _))).mono ?_
  rintro r w2 ⟨v, rfl, N2⟩
  obtain ⟨a2, c2, hv, hA2⟩ := own_atZ N2.own
  rw [HM.out] at hv
  subst hv
  have HA2 := hid hA2
  have HN2 := hid (HB1.out.trans (N2.bel.mono HB1.out.size))
  clear hA2 N2 i2
  go_wp2_with (go_at_call 26; fail)
  refine (i3 w2 a2 c2 HA2.out).mono ?_
  rintro r w3 ⟨rfl, b3⟩
  have HN3 := hid (HN2.out.trans (b3.mono HN2.out.size))
  clear b3 i3 HA2 HN2 HB1
  by_cases h8 : n ≤ 8
  · have d8 : (n : Int) ≤ 8 := by omega
    go_wp2
    go_ret
    exact ⟨⟨_, rfl⟩, HN3.out⟩
  · have d8 : ¬ (n : Int) ≤ 8 := by omega
    have hl : n - 1 < ps.length := by rw [hn.out]; omega
    obtain ⟨x, rfl, _, hx⟩ := (HA.out.below HN3.out (Nat.le_refl _)) (n - 1) ps[n - 1] (List.getElem?_eq_getElem hl)
    have e1 : IntKind.i64.wrap ((n : Int) - 1) = ((n - 1 : Nat) : Int) := by rw [IntKind.wrap_i64]; omega
    have e2 : wrap64 ((n : Int) - 1) = ((n - 1 : Nat) : Int) := by unfold wrap64; omega
    have j0 : (0 : Int) ≤ ((n - 1 : Nat) : Int) := by omega
    have j1 : ((n - 1 : Nat) : Int) < (n : Int) := by omega
    have j2 : (0 : Int) ≤ (n : Int) - 1 := by omega
    have j3 : (n : Int) - 1 < (n : Int) := by omega
    have j4 : ((n : Int) - 1).toNat = n - 1 := by omega
    generalize ps[n - 1] = z at *
    clear hl
    by_cases hz : z ≤ 130
    all_goals
      cases B1 <;> cases B2
      all_goals
        go_wp2
        go_ret
        exact ⟨⟨_, rfl⟩, HN3.out⟩
def Sx (w0 : World) (X : Nat) (w : World) (q q' h n t0 t1 : Nat) : Prop := ∃ (m : World) (ρ : Nat → Nat) (vh vw vi vj : Value) (hT wT hI wI : List Value) (WT WI : List (List Value)) (L : List (List UInt8)) (F F' : Nat → Prop),
  Bw w0.heap.size X m ρ w vh vw vi vj hT wT hI wI WT WI q q' h L F F' ∧ L.length = n ∧ t0 ≤ WT.length ∧ WT.length ≤ t1 ∧ t0 ≤ WI.length ∧ WI.length ≤ t1 ∧ Below w0.heap.size w0 w
theorem Sx.bel {w0 w : World} {X q q' h n t0 t1 : Nat} (s : Sx w0 X w q q' h n t0 t1) : Below w0.heap.size w0 w := by
  obtain ⟨m, ρ, vh, vw, vi, vj, hT, wT, hI, wI, WT, WI, L, F, F', b, e, e1, e2, e3, e4, e5⟩ := s
  exact e5
theorem Sx.below {w0 w w' : World} {X q q' h n t0 t1 : Nat} (s : Sx w0 X w q q' h n t0 t1) (hb : Below w.heap.size w w') : Sx w0 X w' q q' h n t0 t1 := by
  obtain ⟨m, ρ, vh, vw, vi, vj, hT, wT, hI, wI, WT, WI, L, F, F', b, e, e1, e2, e3, e4, e5⟩ := s
  exact ⟨m, rx ρ w 0, vh, vw, vi, vj, hT, wT, hI, wI, WT, WI, L, F, F', b.below hb _ (fun k hk => rx_old hk), e, e1, e2, e3, e4, e5.trans (hb.mono e5.size)⟩
theorem Sx.wide {w0 w : World} {X q q' h n t0 t1 s0 s1 : Nat} (s : Sx w0 X w q q' h n t0 t1) (h0 : s0 ≤ t0) (h1 : t1 ≤ s1) : Sx w0 X w q q' h n s0 s1 := by
  obtain ⟨m, ρ, vh, vw, vi, vj, hT, wT, hI, wI, WT, WI, L, F, F', b, e, e1, e2, e3, e4, e5⟩ := s
  exact ⟨m, ρ, vh, vw, vi, vj, hT, wT, hI, wI, WT, WI, L, F, F', b, e, by omega, by omega, by omega, by omega, e5⟩
theorem Sx.proves {w0 w : World} {X q q' h n t0 t1 : Nat} (s : Sx w0 X w q q' h n t0 t1) (Z : Tb w) (lt : t1 ≤ 800) (cs : List Int) (k : Nat) (hk : cs.length = k) (lk : k ≤ 17592186043904) (a : Option Addr) (cap : Nat) (hA : AtI w a cs) :
    Calls Tryz.prog 9 #[.pointer (some ⟨X, 0, none⟩), .pointer (some ⟨q, 0, none⟩), .pointer (some ⟨q', 0, none⟩), .slice a k cap] w fun r w' => r = .returned (.bool true) ∧ Sx w0 X w' q q' h n (t0 + 3) (t1 + 3) := by
  obtain ⟨m, ρ, vh, vw, vi, vj, hT, wT, hI, wI, WT, WI, L, F, F', b, e, e1, e2, e3, e4, e5⟩ := s
  refine (proves13_any b Z (by omega) (by omega) cs k hk lk a cap hA).mono ?_
  rintro r w' ⟨rfl, ρ', vh', vw', vi', vj', hT', wT', hI', wI', WT', WI', b', l1, l2, sz⟩
  refine ⟨rfl, m, ρ', vh', vw', vi', vj', hT', wT', hI', wI', WT', WI', L, F, F', b', e, by omega, by omega, by omega, by omega, ?_⟩
  have k1 := b.d.bel
  have k2 := b'.d.bel
  exact ⟨k2.os.trans (k1.os.symm.trans e5.os), k2.tape.trans (k1.tape.symm.trans e5.tape), k2.output.trans (k1.output.symm.trans e5.output), Nat.le_trans e5.size sz, fun i hi => (k2.block i hi).trans ((k1.block i hi).symm.trans (e5.block i hi))⟩
theorem Sx.still {w0 w : World} {X q q' h n t0 t1 : Nat} (s : Sx w0 X w q q' h n t0 t1) (lt : t1 ≤ 100) (l0 : 0 < t0) :
    Calls Tryz.prog 14 #[.pointer (some ⟨X, 0, none⟩)] w fun r w' => r = .returned (.bool true) ∧ Below w0.heap.size w0 w' := by
  obtain ⟨m, ρ, vh, vw, vi, vj, hT, wT, hI, wI, WT, WI, L, F, F', b, e, e1, e2, e3, e4, e5⟩ := s
  refine (b.d.still (by omega) (by omega) (by omega) (by omega) b.tx b.ti).mono ?_
  rintro r w' ⟨rfl, hb⟩
  exact ⟨rfl, e5.trans hb⟩
theorem Sx.adds {w0 w : World} {X q q' h n t0 t1 : Nat} (s : Sx w0 X w q q' h n t0 t1) (Y : List UInt8) (hY : Y.length = 32) (hn : n < 1048576) (Z : Tb w) (hZ : 4 ≤ w0.heap.size) :
    Calls Tryz.prog 12 #[.pointer (some ⟨q, 0, none⟩), sv Y] w fun r w2 => r = .returned (.int .i64 0) ∧
      Calls Tryz.prog 13 #[.pointer (some ⟨q', 0, none⟩), sv Y] w2 fun r' w3 => r' = .returned (.int .i64 0) ∧ Sx w0 X w3 q q' h (n + 1) t0 t1 := by
  obtain ⟨m, ρ, vh, vw, vi, vj, hT, wT, hI, wI, WT, WI, L, F, F', b, e, e1, e2, e3, e4, e5⟩ := s
  refine (tAdd_any b.t Y hY (by omega) Z).mono ?_
  rintro r w2 ⟨rfl, G, t2, m2⟩
  refine ⟨rfl, ?_⟩
  have r2 := b.r.mov m2 (fun k f g => b.off k g f)
  have s2 := m2.keep.size
  have z5 := e5.size
  refine (rAdd_any r2.1 Y hY (by omega) (by omega)).mono ?_
  rintro r w3 ⟨rfl, G', r3, m3⟩
  have o2 : ∀ k, G k → ¬ F' k := fun k g f => r2.2 k f g
  have t3 := t2.mov m3 o2
  have s3 := m3.keep.size
  have both : ∀ k, k < w.heap.size → ρ k ≠ 4000 → w3.heap[k]? = w.heap[k]? := fun k hk hne => (m3.keep.block k (by omega) (fun f => hne (b.g k f))).trans (m2.keep.block k hk (fun f => hne (b.f k f)))
  have d := b.d.wr (w' := w3) (ρ' := rx ρ w 4000) (m3.keep.os.trans m2.keep.os) (m3.keep.tape.trans m2.keep.tape) (m3.keep.output.trans m2.keep.output) (by omega) both (fun k hk => rx_old hk)
  refine ⟨rfl, m, rx ρ w 4000, vh, vw, vi, vj, hT, wT, hI, wI, WT, WI, L ++ [Y], G, G', ⟨d, t3.1, r3, fun k hk => ?_, fun k hk => ?_, t3.2, b.tx, b.ti⟩, by rw [List.length_append, e]; rfl, e1, e2, e3, e4, ?_⟩
  · rcases m2.new k hk with f | f
    · rw [rx_old (b.t.lt k f)]; exact b.f k f
    · exact rx_new f
  · rcases m3.new k hk with f | f
    · rw [rx_old (b.r.lt k f)]; exact b.g k f
    · exact rx_new (by omega)
  · have k1 := b.d.bel
    have k2 := d.bel
    exact ⟨k2.os.trans (k1.os.symm.trans e5.os), k2.tape.trans (k1.tape.symm.trans e5.tape), k2.output.trans (k1.output.symm.trans e5.output), by omega, fun i hi => (k2.block i hi).trans ((k1.block i hi).symm.trans (e5.block i hi))⟩
theorem sx_start {w0 w2 : World} {q q' h n : Nat} {L : List (List UInt8)} {F F' : Nat → Prop} (t : TrL w2 q h L F) (r : RtL w2 q' h L F') (g : ∀ k, F k → w0.heap.size ≤ k) (g' : ∀ k, F' k → w0.heap.size ≤ k) (off : ∀ k, F k → ¬ F' k) (hL : L.length = n) (hb : Below w0.heap.size w0 w2) :
    Sx w0 w2.heap.size (w2.alloc (.cells #[.slice none 0 0, .slice none 0 0, .slice none 0 0, .slice none 0 0, .slice none 0 0, .slice none 0 0, .slice none 0 0, .slice none 0 0, .slice none 0 0] 35)) q q' h n 0 0 := by
  classical
  have ba := (Below.refl w2.heap.size w2).alloc (Nat.le_refl _) (.cells #[.slice none 0 0, .slice none 0 0, .slice none 0 0, .slice none 0 0, .slice none 0 0, .slice none 0 0, .slice none 0 0, .slice none 0 0, .slice none 0 0] 35)
  have hbb := hb.trans (ba.mono hb.size)
  have zs := hb.size
  refine ⟨_, fun k => if k = w2.heap.size then 1 else if F k ∨ F' k then 4000 else 0, _, _, _, _, [], [], [], [], [], [], L, F, F', ⟨⟨Below.refl _ _, hbb.size, fun k hk => ?_, heap_alloc_new w2 _, if_pos rfl, Hf.nil _ _ _ _ _ _, Hf.nil _ _ _ _ _ _⟩, t.below ba, r.below ba, fun k hk => ?_, fun k hk => ?_, off, fun W hW => (by cases hW), fun W hW => (by cases hW)⟩, hL, by simp, by simp, by simp, by simp, hbb⟩
  · rw [if_neg (by omega), if_neg]
    rintro (e | e)
    · have := g k e; omega
    · have := g' k e; omega
  · have := t.lt k hk
    rw [if_neg (by omega), if_pos (.inl hk)]
  · have := r.lt k hk
    rw [if_neg (by omega), if_pos (.inr hk)]
end Gb
end Chn
end Go.Proofs.YtjcapdkibbjmiaaGreatDoor

/- Layer 13, the law: ChainProves (written by genCH6.py) -/
namespace Go.Proofs.YtjcapdkibbjmiaaGreatDoor
open Go.RowKit Go.Shelf
namespace Chn
namespace Gb
set_option maxRecDepth 100000 in
set_option maxHeartbeats 8000000 in
theorem chainProves13 (ht mo : Int) (E : List (List UInt8)) (D : List Int) (N Dn : Nat) (hN : Hid (E.length = N)) (hD : Hid (D.length = Dn)) (lN : N ≤ 9223372036854775807) (lD : Dn ≤ 17592186043904) (hbh : -9223372036854775808 ≤ ht ∧ ht ≤ 9223372036854775807) (hbm : -9223372036854775808 ≤ mo ∧ mo ≤ 9223372036854775807) (a d : Option Addr) (ca cd : Nat) (w : World) (hA : At w a E) (hE : ∀ x ∈ E, x.length ≤ 140737488355000) (hAd : AtI w d D) (hDr : ∀ c ∈ D, -9223372036854775808 ≤ c ∧ c ≤ 9223372036854775807) (Z : Tb w) :
    Calls Tryz.prog 3 #[.int .i64 ht, .slice a N ca, .slice d Dn cd, .int .i64 mo] w fun e w' => e = .returned (.bool true) ∧ Below w.heap.size w w' := by
  have i1 := known13_any w Z.t
  have p0 := pk_nonneg (N : Int) 81 (by omega)
  have p1 := pk_lt (N : Int) 81 (by omega)
  have i2 := fun w' => pick_any (N : Int) 81 (by omega) (by omega) (by omega) (by omega) w'
  obtain ⟨n, hnn⟩ : ∃ n : Nat, pk (N : Int) 81 = (n : Int) := ⟨(pk (N : Int) 81).toNat, by omega⟩
  rw [hnn] at i2 p1
  have n81 : n ≤ 80 := by omega
  have i3 := fun w' (bb : Below w.heap.size w w') => trees13_any ht E n N hN (by omega) a ca w' hbh.1 hbh.2 (hA.below bb (Nat.le_refl _)) hE (Z.below bb Z.lt)
  have i4 := hid fun w' (bb : Below w.heap.size w w') => rising13_any D (1 + n) 64 (by omega) (by omega) (by omega) (by omega) Dn hD (by omega) d cd w' (hAd.below bb (Nat.le_refl _)) hDr
  have i5 := hid fun w' (bb : Below w.heap.size w w') => few13_any D Dn hD d cd w' (by omega) (hAd.below bb (Nat.le_refl _))
  have HZ := hid (fun w' (bb : Below w.heap.size w w') => Z.below bb Z.lt)
  have hZt := Z.lt
  have HAd := hid hAd
  have j2 := hid fun w' => pick_any mo 9 hbm.1 hbm.2 (by omega) (by omega) w'
  have q0 := pk_nonneg mo 9 (by omega)
  have q1 := pk_lt mo 9 (by omega)
  obtain ⟨P, hP⟩ : ∃ P : Nat, pk mo 9 = (P : Int) := ⟨(pk mo 9).toNat, by omega⟩
  rw [hP] at j2 q1
  have hP9 : P < 9 := by omega
  have e1n : ((1 + n : Nat) : Int) = 1 + (n : Int) := by omega
  rw [e1n] at i4
  clear hA hE hAd hDr Z hP q0 q1 p0 hnn hbh hbm
  go_enter Tryz.func3, Tryz.ntmps3
  go_upto_region 2 with (go_at_call 5; refine i1.mono ?_; rintro r w1 ⟨rfl, b1⟩)
  have B1 := hid b1
  clear b1 i1
  go_upto_region 3 with (go_at_call 6; refine (i2 _).mono ?_; rintro r w1' ⟨rfl, h0⟩; have h0 := h0.symm; subst h0)
  clear i2
  go_upto_if 35 with (go_at_call 7; refine (i3 _ B1.out).mono ?_; rintro r w2 ⟨q, q', h, L, F, F', rfl, hL, tt⟩)
  have B2 := hid (B1.out.trans (tt.bel.mono B1.out.size))
  have S0 := sx_start (w0 := w) tt.t tt.r (fun k f => Nat.le_trans B1.out.size (tt.g k f)) (fun k f => Nat.le_trans B1.out.size (tt.g' k f)) tt.off hL B2.out
  obtain ⟨X, hX⟩ : ∃ X, w2.heap.size = X := ⟨_, rfl⟩
  obtain ⟨w3, hw3⟩ : ∃ w3, w2.alloc (.cells #[.slice none 0 0, .slice none 0 0, .slice none 0 0, .slice none 0 0, .slice none 0 0, .slice none 0 0, .slice none 0 0, .slice none 0 0, .slice none 0 0] 35) = w3 := ⟨_, rfl⟩
  rw [hX, hw3] at S0
  have S0 := hid S0
  clear i3 hL tt B1 B2
  go_upto_region 7 with fail
  clear hX hw3
  go_upto_if 40 with (go_at_call 8; refine (i5.out _ S0.out.bel).mono ?_; rintro r w4 ⟨⟨fb, rfl⟩, b4⟩)
  have S4 := hid (S0.out.below b4)
  clear b4 S0 i5
  go_cut [14] from 41 to 45 (fun v14 w' => v14 = .bool true ∧ Hid (Sx w X w' q q' h n 0 3))
  case first =>
    cases fb with
    | false =>
      go_wp2
      go_meet
      exact ⟨rfl, S4.out.wide (by omega) (by omega)⟩
    | true =>
      have ip := S4.out.proves (HZ.out _ S4.out.bel) (by omega) D Dn hD.out lD d cd (HAd.out.below S4.out.bel (Nat.le_refl _))
      go_wp2_with (go_at_call 9; refine ip.mono ?_; rintro r w5 ⟨rfl, s5⟩)
      go_meet
      exact ⟨rfl, s5.wide (by omega) (by omega)⟩
  case rest =>
  obtain ⟨rfl, S5⟩ := hcut
  revert wc
  intro wc S5
  clear S4
  have s1 : IntKind.i64.wrap (1 + (n : Int)) = 1 + (n : Int) := by rw [IntKind.wrap_i64]; omega
  go_upto_region 12 with (first
    | (go_at_call 10; refine (i4.out _ S5.out.bel).mono ?_; rintro r w6 ⟨vl, hs, rfl, ol, HH, hle, _, gl, b6⟩; have S6 := hid (S5.out.below b6); obtain ⟨la, lc, hla, _, _⟩ := ol.shape; subst hla; have ip := S6.out.proves (HZ.out _ S6.out.bel) (by omega) (ix hs) hs.length (by rw [ix_len]) (by have := HH.le; omega) la lc (OwnM.atIC ol))
    | (go_at_call 9; refine ip.mono ?_; rintro r w7 ⟨rfl, s7⟩))
  have S7 := hid s7
  clear s7 ip S6 ol HH hle gl b6 S5
  go_wp2
  go_loopw [17] (fun i w' => ∃ j : Nat, j ≤ 1 + P ∧ i = .int .i64 (j : Int) ∧ Hid (Sx w X w' q q' h (n + j) 3 6)) (fun i _ => 1 + P - (intOf i).toNat)
  case atStart => exact ⟨0, by omega, rfl, S7.out⟩
  case round =>
    clear S7
    obtain ⟨j, hj, rfl, SJ⟩ := hrel
    have s2 : IntKind.i64.wrap (1 + (P : Int)) = 1 + (P : Int) := by rw [IntKind.wrap_i64]; omega
    go_upto_if 58 with (go_at_call 6; refine (j2.out _).mono ?_; rintro r w8' ⟨rfl, h0⟩; have h0 := h0.symm; subst h0)
    by_cases hjP : j < 1 + P
    · have e0 : (j : Int) < 1 + (P : Int) := by omega
      have hcv := hid fun w' => conv_oneC j (by omega) w'
      have hj' := hid hjP
      have HS := hid SJ.out.bel.size
      have w256 : IntKind.u8.wrap (j : Int) = (j : Int) := by rw [IntKind.wrap_u8]; omega
      have cv0 := hcv.out wr
      have bA := (Below.refl wr.heap.size wr).alloc (Nat.le_refl _) (.cells #[.int .u8 (j : Int)] 5)
      have SA := hid (SJ.out.below bA)
      obtain ⟨Y, hY⟩ : ∃ Y : List UInt8, Y = Sha.sha (((⟨#[109, 111, 114, 101]⟩ : ByteArray) ++ (⟨#[UInt8.ofNat j]⟩ : ByteArray)).data.toList) := ⟨_, rfl⟩
      have iH := hid fun w' => hash8_any ((⟨#[109, 111, 114, 101]⟩ : ByteArray) ++ (⟨#[UInt8.ofNat j]⟩ : ByteArray)) (by rw [ByteArray.size_append, show (⟨#[109, 111, 114, 101]⟩ : ByteArray).size = 4 from rfl, show (⟨#[UInt8.ofNat j]⟩ : ByteArray).size = 1 from rfl]; omega) w'
      rw [← hY] at iH
      have l32 : Hid (Y.length = 32) := by unfold Hid; rw [hY]; exact Sha.sha_length _
      rw [show sv Y = Value.string ⟨Y.toArray⟩ from rfl] at iH
      clear hY hcv bA SJ
      go_upto_region 16 with (go_at_call 11; refine (iH.out _).mono ?_; rintro r w8 ⟨rfl, b8⟩)
      have S8 := hid (SA.out.below b8)
      have iA := S8.out.adds Y l32.out (by omega) (HZ.out _ S8.out.bel) hZt
      rw [show sv Y = Value.string ⟨Y.toArray⟩ from rfl] at iA
      clear b8 SA iH cv0
      go_upto_region 17 with (go_at_call 12; refine iA.mono ?_; rintro r w9 ⟨rfl, iR⟩)
      go_upto_region 18 with (go_at_call 13; refine iR.mono ?_; rintro r w10 ⟨rfl, s10⟩)
      have S10 := hid s10
      clear s10 iR iA S8
      go_wp2
      exact ⟨⟨j + 1, hj'.out, by go_num, S10⟩, by have := hj'.out; simp [intOf]; omega⟩
    · obtain rfl : j = 1 + P := by omega
      have e0 : ¬ ((1 + P : Nat) : Int) < 1 + (P : Int) := by omega
      go_upto_region 21 with (first
        | (go_at_call 10; refine (i4.out _ SJ.out.bel).mono ?_; rintro r w6 ⟨vl, hs, rfl, ol, HH, hle, _, gl, b6⟩; have S6 := hid (SJ.out.below b6); obtain ⟨la, lc, hla, _, _⟩ := ol.shape; subst hla; have ip := S6.out.proves (HZ.out _ S6.out.bel) (by omega) (ix hs) hs.length (by rw [ix_len]) (by have := HH.le; omega) la lc (OwnM.atIC ol))
        | (go_at_call 9; refine ip.mono ?_; rintro r w7 ⟨rfl, s7⟩))
      have iS := s7.still (by omega) (by omega)
      clear ip S6 ol HH hle gl b6 SJ
      go_upto_region 22 with (go_at_call 14; refine iS.mono ?_; rintro r w11 ⟨rfl, b11⟩)
      go_wp2
      go_ret
      exact ⟨rfl, b11⟩
end Gb
end Chn
end Go.Proofs.YtjcapdkibbjmiaaGreatDoor

namespace Go.Proofs.YtjcapdkibbjmiaaGreatDoor
open Go.ChangeShapes Go.WideShapes Go.ChangeAt Go.RowKit
theorem gDB : Tryz.prog.globalNamed "math/bits.deBruijn64tab" = some 1 := by kernel_rfl
theorem gDBType : (Tryz.prog.globals[1]?).map (·.type) = some 156 := by kernel_rfl
theorem cells64b : Tryz.prog.cellsOf 156 = 64 := by kernel_rfl
theorem cells1b : Tryz.prog.cellsOf 5 = 1 := by kernel_rfl
def four : List (String × DataW Unit) := [("math/bits.deBruijn32tab", Rows.laid_math_bits_deBruijn32tab), ("math/bits.deBruijn64tab", Rows.laid_math_bits_deBruijn64tab), ("scrivener/digest.start", Rows.laid_scrivener_digest_start), ("scrivener/digest.rounds", Rows.laid_scrivener_digest_rounds)]
theorem tb_of {W : World} (h : laidMet Tryz.prog four W) : Tb W := by
  have h1 := laidMet.tail h
  have h2 : Lib.TabIs Tryz.prog W "math/bits.deBruijn64tab" .u8 (Lib.deBruijn64tab.map Int.ofNat) :=
    Lib.tabIs_of_head gDB gDBType Tryz.underlying156 Tryz.underlying5 cells1b cells64b (show laidMet Tryz.prog (("math/bits.deBruijn64tab", Lib.tabData .u8 (Lib.deBruijn64tab.map Int.ofNat)) :: _) W from h1)
  refine ⟨tabs_of (laidMet.tail h1), fun j hj => ?_⟩
  have := h2.cell gDB j (by rw [List.length_map]; exact hj)
  rw [this]
  simp [List.getD_eq_getElem?_getD]
  rw [List.getElem?_eq_getElem (show j < Lib.deBruijn64tab.length from hj)]; simp
noncomputable def laidWorld5 (os : Os) : World :=
  { laidWorld os with
    heap := ((laidWorld os).heap.modify 0 (fillObj (Lib.deBruijn32tab.map fun n => Value.int .u8 (Int.ofNat n)).toArray)).modify 1 (fillObj (Lib.deBruijn64tab.map fun n => Value.int .u8 (Int.ofNat n)).toArray) }
end Go.Proofs.YtjcapdkibbjmiaaGreatDoor

namespace Go.Proofs.YtjcapdkibbjmiaaGreatDoor
open Go.ChangeShapes Go.WideShapes Go.ChangeAt Go.RowKit
theorem bytesS : Tryz.prog.bytesOf 9 = 16 := by kernel_rfl
set_option maxRecDepth 100000 in
theorem open_atF {H : Type} {enc : TypeId × Value → H} {W : World} {base : Nat} {v : Value} {d : DataW H} {p : List MemPlace}
    (hval : Value.okWide Tryz.prog W .any base 22 v) (hd : DataW.Trod enc Tryz.prog W 0 (fun _ => true) true 22 v d p) (hk : ∀ x ∈ DataW.weights Tryz.prog 22 d, x ≤ reachBytes) :
    ∃ a l cap, v = .slice a l.length cap ∧ At W a l ∧ l.length ≤ cap ∧ cap ≤ 9223372036854775807 ∧ l.length ≤ 8796093021952 := by
  obtain ⟨a0, len0, cap0, rfl⟩ := okWide_slice Tryz.underlying22 hval
  obtain ⟨fuel, hf⟩ := hd
  rcases open_strings Tryz.underlying22 Tryz.underlying9 cellsS hf with ⟨hcs, hx⟩ | ⟨a, len, cap, ss, hcs, _, hl, hm, hz, hx, hcell, hsz⟩
  · simp [Value.cells] at hcs
    obtain ⟨rfl, rfl, rfl⟩ := hcs
    exact ⟨none, [], 0, rfl, At.nil _ _, by simp, by omega, by simp⟩
  · simp [Value.cells] at hcs
    obtain ⟨rfl, rfl, rfl⟩ := hcs
    simp only [Prod.mk.injEq] at hx
    obtain ⟨rfl, _⟩ := hx
    simp only [if_true] at hz
    have hlen : ((ss.take len0).map (·.data.toList)).length = len0 := by simp; omega
    have hw : cap0 * 16 ≤ reachBytes := by
      refine hk _ ?_
      rw [DataW.weights, Tryz.underlying22]
      simp only [bytesS]
      have e : (strs (H := H) (ss.take len0)).length + (strs (H := H) (ss.drop len0)).length = cap0 := by simp [strs]; omega
      rw [e]
      exact List.mem_cons_self
    have hr : reachBytes = 140737488351232 := rfl
    refine ⟨some a, (ss.take len0).map (·.data.toList), cap0, by rw [hlen], fun j p hp => ?_, by omega, hm, by omega⟩
    rw [List.getElem?_map, Option.map_eq_some_iff] at hp
    obtain ⟨s, hs, rfl⟩ := hp
    rw [List.getElem?_take] at hs
    split at hs
    · have hj := (List.getElem?_eq_some_iff.1 hs).1
      have hc := hcell j hj
      rw [List.getD_eq_getElem?_getD, hs] at hc
      refine ⟨a, rfl, ?_, hc⟩
      have := block_lt_of_cell hc
      rwa [addr_block] at this
    · cases hs
theorem weights_head {H : Type} {P : Program} {t : TypeId} {ts : List TypeId} {d : DataW H} {r : List (DataW H)} (h : (DataW.weightsEach P (t :: ts) (d :: r)).all (· ≤ reachBytes) = true) : ∀ x ∈ DataW.weights P t d, x ≤ reachBytes := fun x hx => by
  have := List.all_eq_true.1 h x (by rw [DataW.weightsEach]; exact List.mem_append_left _ hx)
  simpa using this
theorem weights_mem {H : Type} {P : Program} {e : TypeId} {d : DataW H} {x : Nat} : ∀ {l : List (DataW H)}, d ∈ l → x ∈ DataW.weights P e d → x ∈ DataW.weightsAll P e l
  | [], h, _ => by cases h
  | f :: r, h, hx => by
    rw [DataW.weightsAll]
    rcases List.mem_cons.1 h with rfl | h
    · exact List.mem_append_left _ hx
    · exact List.mem_append_right _ (weights_mem h hx)
theorem weights_tail {H : Type} {P : Program} {t : TypeId} {ts : List TypeId} {d : DataW H} {r : List (DataW H)} (h : (DataW.weightsEach P (t :: ts) (d :: r)).all (· ≤ reachBytes) = true) : (DataW.weightsEach P ts r).all (· ≤ reachBytes) = true := by
  rw [List.all_eq_true] at h ⊢
  exact fun x hx => h x (by rw [DataW.weightsEach]; exact List.mem_append_right _ hx)
set_option maxRecDepth 100000 in
theorem open_atG {H : Type} {enc : TypeId × Value → H} {W : World} {base : Nat} {v : Value} {d : DataW H} {p : List MemPlace}
    (hval : Value.okWide Tryz.prog W .any base 22 v) (hd : DataW.Trod enc Tryz.prog W 0 (fun _ => true) true 22 v d p) (hk : ∀ x ∈ DataW.weights Tryz.prog 22 d, x ≤ reachBytes) :
    ∃ a l cap, v = .slice a l.length cap ∧ At W a l ∧ l.length ≤ cap ∧ cap ≤ 9223372036854775807 ∧ l.length ≤ 8796093021952 ∧ ∀ q ∈ l, q.length ≤ 140737488351232 := by
  obtain ⟨a0, len0, cap0, rfl⟩ := okWide_slice Tryz.underlying22 hval
  obtain ⟨fuel, hf⟩ := hd
  rcases open_strings Tryz.underlying22 Tryz.underlying9 cellsS hf with ⟨hcs, hx⟩ | ⟨a, len, cap, ss, hcs, _, hl, hm, hz, hx, hcell, hsz⟩
  · simp [Value.cells] at hcs
    obtain ⟨rfl, rfl, rfl⟩ := hcs
    exact ⟨none, [], 0, rfl, At.nil _ _, by simp, by omega, by simp, by simp⟩
  · simp [Value.cells] at hcs
    obtain ⟨rfl, rfl, rfl⟩ := hcs
    simp only [Prod.mk.injEq] at hx
    obtain ⟨rfl, _⟩ := hx
    simp only [if_true] at hz
    have hlen : ((ss.take len0).map (·.data.toList)).length = len0 := by simp; omega
    have hr : reachBytes = 140737488351232 := rfl
    have hw : cap0 * 16 ≤ reachBytes := by
      refine hk _ ?_
      rw [DataW.weights, Tryz.underlying22]
      simp only [bytesS]
      have e : (strs (H := H) (ss.take len0)).length + (strs (H := H) (ss.drop len0)).length = cap0 := by simp [strs]; omega
      rw [e]
      exact List.mem_cons_self
    have hq : ∀ s ∈ ss.take len0, s.data.toList.length ≤ reachBytes := fun s hs => by
      refine hk _ ?_
      rw [DataW.weights, Tryz.underlying22]
      refine List.mem_cons_of_mem _ (List.mem_append_left _ (weights_mem (d := .lit (.string s.data.toList)) ?_ ?_))
      · unfold strs
        exact List.mem_map.2 ⟨s, hs, rfl⟩
      · simp [DataW.weights]
    refine ⟨some a, (ss.take len0).map (·.data.toList), cap0, by rw [hlen], fun j p hp => ?_, by omega, hm, by omega, fun q hq' => ?_⟩
    rotate_left
    · obtain ⟨s, hs, rfl⟩ := List.mem_map.1 hq'
      have := hq s hs
      omega
    rw [List.getElem?_map, Option.map_eq_some_iff] at hp
    obtain ⟨s, hs, rfl⟩ := hp
    rw [List.getElem?_take] at hs
    split at hs
    · have hj := (List.getElem?_eq_some_iff.1 hs).1
      have hc := hcell j hj
      rw [List.getD_eq_getElem?_getD, hs] at hc
      refine ⟨a, rfl, ?_, hc⟩
      have := block_lt_of_cell hc
      rwa [addr_block] at this
    · cases hs
end Go.Proofs.YtjcapdkibbjmiaaGreatDoor

namespace Go.Proofs.YtjcapdkibbjmiaaGreatDoor
open Go.ChangeShapes Go.WideShapes Go.ChangeAt Go.RowKit
theorem bytesI : Tryz.prog.bytesOf 3 = 8 := by kernel_rfl
set_option maxRecDepth 100000 in
theorem open_atIF {H : Type} {enc : TypeId × Value → H} {W : World} {base : Nat} {v : Value} {d : DataW H} {p : List MemPlace}
    (hval : Value.okWide Tryz.prog W .any base 23 v) (hd : DataW.Trod enc Tryz.prog W 0 (fun _ => true) true 23 v d p) (hk : ∀ x ∈ DataW.weights Tryz.prog 23 d, x ≤ reachBytes) :
    ∃ a l cap, v = .slice a l.length cap ∧ AtI W a l ∧ l.length ≤ cap ∧ cap ≤ 9223372036854775807 ∧ l.length ≤ 17592186043904 ∧ ∀ c ∈ l, -9223372036854775808 ≤ c ∧ c ≤ 9223372036854775807 := by
  obtain ⟨a0, len0, cap0, rfl⟩ := okWide_slice Tryz.underlying23 hval
  obtain ⟨fuel, hf⟩ := hd
  rcases open_ints Tryz.underlying23 Tryz.underlying3 cellsI hf with ⟨hcs, hx⟩ | ⟨a, len, cap, zs, hcs, _, hl, hm, hz, hx, hcell, hwf⟩
  · simp [Value.cells] at hcs
    obtain ⟨rfl, rfl, rfl⟩ := hcs
    exact ⟨none, [], 0, rfl, fun j p hp => by simp at hp, by simp, by omega, by simp, fun c hc => by simp at hc⟩
  · simp [Value.cells] at hcs
    obtain ⟨rfl, rfl, rfl⟩ := hcs
    simp only [Prod.mk.injEq] at hx
    obtain ⟨rfl, _⟩ := hx
    simp only [if_true] at hz
    have hlen : (zs.take len0).length = len0 := by simp; omega
    have hw : cap0 * 8 ≤ reachBytes := by
      refine hk _ ?_
      rw [DataW.weights, Tryz.underlying23]
      simp only [bytesI]
      have e : (lits (H := H) .i64 (zs.take len0)).length + (lits (H := H) .i64 (zs.drop len0)).length = cap0 := by simp [lits]; omega
      rw [e]
      exact List.mem_cons_self
    have hr : reachBytes = 140737488351232 := rfl
    refine ⟨some a, zs.take len0, cap0, by rw [hlen], fun j c hc => ?_, by omega, hm, by omega, fun c hc => wf_i64 (hwf c (List.mem_of_mem_take hc))⟩
    rw [List.getElem?_take] at hc
    split at hc
    · have hj := (List.getElem?_eq_some_iff.1 hc).1
      have hc' := hcell j hj
      rw [List.getD_eq_getElem?_getD, hc] at hc'
      refine ⟨a, rfl, ?_, hc'⟩
      have := block_lt_of_cell hc'
      rwa [addr_block] at this
    · cases hc
end Go.Proofs.YtjcapdkibbjmiaaGreatDoor
