import Derived.Test.YtipcpdoejkoadaaDoorY12
namespace Go.Proofs.YtipcpdoejkoadaaDoor
open Go.RowKit Cod

set_option maxRecDepth 100000 in
set_option maxHeartbeats 1000000 in
theorem step0 (B WB XB : Nat) (v : Value) (ws : WSt) (S : List UInt8) (E : Int) (o kp : Bool) (kd n m : Int) (s : ByteArray) (lv tv : Value) (hk : kd ≠ 1 ∧ kd ≠ 2 ∧ kd ≠ 3 ∧ kd ≠ 4 ∧ kd ≠ 5 ∧ kd ≠ 6 ∧ kd ≠ 7) (w : World) (hL : Lay w) (T : Twin w B WB XB v ws S E) :
    Calls Tryd.prog 37 #[pV WB XB, oV o kp kd n m s lv tv] w (SPost w B WB XB v S) := by
  have D0 := hid (Way.start T hL #[.bool o, .bool kp, .int .i64 kd, .int .i64 n, .int .i64 m, .string s, lv, tv])
  obtain ⟨p0a, p1a, o1a, o2a, o3a, o4a, o5a, o6a, o7a⟩ := D0.out.bx.cells
  clear T hL
  obtain ⟨h1, h2, h3, h4, h5, h6, h7⟩ := hk
  have y1 : (kd == 1) = false := by simp; exact h1
  have y2 : (kd == 2) = false := by simp; exact h2
  have y3 : (kd == 3) = false := by simp; exact h3
  have y4 : (kd == 4) = false := by simp; exact h4
  have y5 : (kd == 5) = false := by simp; exact h5
  have y6 : (kd == 6) = false := by simp; exact h6
  have y7 : (kd == 7) = false := by simp; exact h7
  clear h1 h2 h3 h4 h5 h6 h7
  go_enter Tryd.func37, Tryd.ntmps37
  go_wp2
  go_ret
  exact D0.out.post (by omega)
theorem SlcI.low {w : World} {v : Value} {l : List Int} (h : SlcI w v l) : ∀ x n c, v = .slice (some x) n c → l ≠ [] → x.block < w.heap.size := fun x n c hv hl => by
  obtain ⟨a, cap, rfl, h⟩ := h
  cases l with
  | nil => exact absurd rfl hl
  | cons q r =>
    obtain ⟨y, hy, hb, _⟩ := h 0 q rfl
    cases hv; cases hy; exact hb
theorem Slc.low {w : World} {v : Value} {l : List (List UInt8)} (h : Slc w v l) : ∀ x n c, v = .slice (some x) n c → l ≠ [] → x.block < w.heap.size := fun x n c hv hl => by
  obtain ⟨a, cap, rfl, h⟩ := h
  cases l with
  | nil => exact absurd rfl hl
  | cons q r =>
    obtain ⟨y, hy, hb, _⟩ := h 0 q rfl
    cases hv; cases hy; exact hb
/-- one step's arguments -/
structure OpOk (W : World) (n : Int) (s : ByteArray) (lv tv : Value) : Prop where
  n1 : -9223372036854775808 ≤ n
  n2 : n ≤ 9223372036854775807
  hs : s.size ≤ 1048576
  hl : ∃ l, SlcI W lv l ∧ (∀ c ∈ l, -9223372036854775808 ≤ c ∧ c ≤ 9223372036854775807) ∧ l.length ≤ 1048576
  ht : ∃ ps, Slc W tv ps ∧ ps.length ≤ 1048576 ∧ total ps ≤ 1048576
theorem step_any (W : World) (B WB XB : Nat) (hB : 1 ≤ B) (hWB : W.heap.size = B) (v : Value) (ws : WSt) (S : List UInt8) (E : Int) (o kp : Bool) (kd n m : Int) (s : ByteArray) (lv tv : Value) (w : World) (hbl : Below B W w) (ok : OpOk W n s lv tv) (hL : Lay w) (T : Twin w B WB XB v ws S E) (hS : S.length ≤ 100000000000) :
    Calls Tryd.prog 37 #[pV WB XB, oV o kp kd n m s lv tv] w (SPost w B WB XB v S) := by
  obtain ⟨n1, n2, hs, ⟨l, hl, hlb, hll⟩, ⟨ps, ht, hpl, hpt⟩⟩ := ok
  have hd : (digs n.toNat).length ≤ 10 := digs_len 9 n.toNat (by have e : 128 ^ (9 + 1) = 1180591620717411303424 := by decide
                                                                 rw [e]; omega)
  have kW : Keep (fun _ => False) W w := Keep.ofBelow (by rw [hWB]; exact hbl)
  have hl' := hl.keep kW (fun _ _ _ _ h => h)
  have ht' := ht.keep kW (fun _ _ _ _ h => h)
  have lo1 := hl.low
  have lo2 := ht.low
  rw [hWB] at lo1 lo2
  by_cases h1 : kd = 1
  · subst h1; exact step1 B WB XB hB v ws S E o kp n m s lv tv w hL T hS
  by_cases h2 : kd = 2
  · subst h2; exact step2 B WB XB hB v ws S E o kp n m s lv tv n1 n2 hd w hL T hS
  by_cases h3 : kd = 3
  · subst h3; exact step3 B WB XB hB v ws S E o kp n m s lv tv w l hl' hlb (by omega) lo1 hL T hS
  by_cases h4 : kd = 4
  · subst h4; exact step4 B WB XB hB v ws S E o kp n m s lv tv (by omega) w hL T hS
  by_cases h5 : kd = 5
  · subst h5; exact step5 B WB XB hB v ws S E o kp n m s lv tv w ps ht' (by omega) (by omega) lo2 hL T hS
  by_cases h6 : kd = 6
  · subst h6; exact step6 B WB XB hB v ws S E o kp n m s lv tv w ps ht' (by omega) (by omega) lo2 hL T hS
  by_cases h7 : kd = 7
  · subst h7; exact step7 B WB XB hB v ws S E o kp n m s lv tv (by omega) w hL T hS
  exact step0 B WB XB v ws S E o kp kd n m s lv tv ⟨h1, h2, h3, h4, h5, h6, h7⟩ w hL T
/-- the law's memory: two pairs, each in a variable -/
structure Law (W : World) (B A WA XA A2 WC XC : Nat) (wr : World) (va : Value) (wa : WSt) (Sa : List UInt8) (Ea : Int) (vc : Value) (wc : WSt) (Sc : List UInt8) (Ec : Int) : Prop where
  ta : Twin wr B WA XA va wa Sa Ea
  tc : Twin wr B WC XC vc wc Sc Ec
  dis : ∀ k, PS WA XA va k → ¬ PS WC XC vc k
  rA : wr.heap[A]? = some (.cells #[.pointer (some ⟨WA, 0, none⟩), .pointer (some ⟨XA, 0, none⟩)] 61 (0, 0))
  rC : wr.heap[A2]? = some (.cells #[.pointer (some ⟨WC, 0, none⟩), .pointer (some ⟨XC, 0, none⟩)] 61 (0, 0))
  nA : ¬ PS WA XA va A ∧ ¬ PS WA XA va A2 ∧ ¬ PS WC XC vc A ∧ ¬ PS WC XC vc A2
  bl : Below B W wr
  lay : Lay wr
  sz : W.heap.size = B
  pos : 1 ≤ B
theorem Law.below {W : World} {B A WA XA A2 WC XC : Nat} {wr : World} {va : Value} {wa : WSt} {Sa : List UInt8} {Ea : Int} {vc : Value} {wc : WSt} {Sc : List UInt8} {Ec : Int} (L : Law W B A WA XA A2 WC XC wr va wa Sa Ea vc wc Sc Ec) {w2 : World} (h : Below wr.heap.size wr w2) : Law W B A WA XA A2 WC XC w2 va wa Sa Ea vc wc Sc Ec :=
  ⟨L.ta.below h, L.tc.below h, L.dis, (h.block _ (lt_of_heap L.rA)).trans L.rA, (h.block _ (lt_of_heap L.rC)).trans L.rC, L.nA, L.bl.trans (h.mono L.ta.sz), lay_keep (K := fun _ => False) L.lay (Keep.ofBelow h) (fun h => h), L.sz, L.pos⟩
theorem ps_new {w : World} {WB XB : Nat} {v v' : Value} (h : From w v v') {k : Nat} (hk : k < w.heap.size) (hn : ¬ PS WB XB v k) : ¬ PS WB XB v' k := fun hp => by
  rcases hp with (rfl | hp) | rfl
  · exact hn (.inl (.inl rfl))
  · rcases h k hp with h | h
    · exact hn (.inl (.inr h))
    · omega
  · exact hn (.inr rfl)
theorem Law.stepA {W : World} {B A WA XA A2 WC XC : Nat} {wr : World} {va : Value} {wa : WSt} {Sa : List UInt8} {Ea : Int} {vc : Value} {wc : WSt} {Sc : List UInt8} {Ec : Int} (L : Law W B A WA XA A2 WC XC wr va wa Sa Ea vc wc Sc Ec) {w2 : World} {v' : Value} {ws' : WSt} {S' : List UInt8} {E' : Int}
    (T : Twin w2 B WA XA v' ws' S' E') (k : Keep (PS WA XA va) wr w2) (f : From wr va v') : Law W B A WA XA A2 WC XC w2 v' ws' S' E' vc wc Sc Ec := by
  refine ⟨T, L.tc.keep k (fun j hj e => L.dis j e hj), fun j hj hc => ?_, (k.block _ (lt_of_heap L.rA) L.nA.1).trans L.rA, (k.block _ (lt_of_heap L.rC) L.nA.2.1).trans L.rC, ⟨ps_new f (lt_of_heap L.rA) L.nA.1, ps_new f (lt_of_heap L.rC) L.nA.2.1, L.nA.2.2.1, L.nA.2.2.2⟩, L.bl.trans (k.below L.ta.sz (fun j hj e => by have := (L.ta.ge j e).1; omega)), lay_keep L.lay k (fun e => by have := (L.ta.ge _ e).1; have := L.pos; omega), L.sz, L.pos⟩
  exact ps_new f (L.tc.ge j hc).2 (fun e => L.dis j e hc) hj
theorem Law.stepC {W : World} {B A WA XA A2 WC XC : Nat} {wr : World} {va : Value} {wa : WSt} {Sa : List UInt8} {Ea : Int} {vc : Value} {wc : WSt} {Sc : List UInt8} {Ec : Int} (L : Law W B A WA XA A2 WC XC wr va wa Sa Ea vc wc Sc Ec) {w2 : World} {v' : Value} {ws' : WSt} {S' : List UInt8} {E' : Int}
    (T : Twin w2 B WC XC v' ws' S' E') (k : Keep (PS WC XC vc) wr w2) (f : From wr vc v') : Law W B A WA XA A2 WC XC w2 va wa Sa Ea v' ws' S' E' := by
  refine ⟨L.ta.keep k (fun j hj e => L.dis j hj e), T, fun j hj hc => ?_, (k.block _ (lt_of_heap L.rA) L.nA.2.2.1).trans L.rA, (k.block _ (lt_of_heap L.rC) L.nA.2.2.2).trans L.rC, ⟨L.nA.1, L.nA.2.1, ps_new f (lt_of_heap L.rA) L.nA.2.2.1, ps_new f (lt_of_heap L.rC) L.nA.2.2.2⟩, L.bl.trans (k.below L.tc.sz (fun j hj e => by have := (L.tc.ge j e).1; omega)), lay_keep L.lay k (fun e => by have := (L.tc.ge _ e).1; have := L.pos; omega), L.sz, L.pos⟩
  exact ps_new f (L.ta.ge j hj).2 (fun e => L.dis j hj e) hc
end Go.Proofs.YtipcpdoejkoadaaDoor
