import Derived.Test.YthoekndjeclimaaGreatDoorCEP6
import Derived.Test.YthoekndjeclimaaGreatDoorCO28
import Derived.Test.YthoekndjeclimaaGreatDoorCI8
namespace Go.Proofs.YthoekndjeclimaaGreatDoor
open Go.RowKit
set_option maxRecDepth 100000 in
set_option maxHeartbeats 1600000 in
theorem same6_any (L M : List (List UInt8)) (a d : Option Addr) (ca cd : Nat) (w : World) (ha : At w a L) (hd : At w d M) (hl : L.length ≤ 9223372036854775807) (hm : M.length ≤ 9223372036854775807) :
    Calls Tryz.prog 26 #[.slice a L.length ca, .slice d M.length cd] w fun e w' => e = .returned (.bool (decide (L = M))) ∧ Below w.heap.size w w' := by
  have Ha := hid ha
  have Hd := hid hd
  clear ha hd
  obtain ⟨r, hr⟩ : ∃ r, Hid (decide (L = M) = r) := ⟨_, rfl⟩
  rw [hr.out]
  by_cases hlm : L.length = M.length
  · have e0 : ((L.length : Int) != (M.length : Int)) = false := by rw [hlm]; simp
    go_enter Tryz.func26, Tryz.ntmps26
    go_wp2
    go_loopw [5] (fun i w' => ∃ k : Nat, k ≤ L.length ∧ i = .int .i64 k ∧ Hid (L.take k = M.take k) ∧ Hid (Below w.heap.size w w')) (fun i _ => L.length - (intOf i).toNat)
    case atStart => exact ⟨0, by omega, rfl, hid rfl, hid (Below.refl _ _)⟩
    case round =>
      obtain ⟨k, hk, rfl, hq, hw'⟩ := hrel
      by_cases hlt : k < L.length
      · have b0 : (k : Int) < (L.length : Int) := by omega
        have b1 : (k : Int) < (M.length : Int) := by omega
        obtain ⟨x, rfl, xb, hx⟩ := Ha.out k L[k] (List.getElem?_eq_getElem hlt)
        rw [← hw'.out.cell (p := x.add k) (by rw [addr_block]; exact xb)] at hx
        obtain ⟨y, rfl, yb, hy⟩ := Hd.out k (M[k]'(by omega)) (List.getElem?_eq_getElem (by omega))
        rw [← hw'.out.cell (p := y.add k) (by rw [addr_block]; exact yb)] at hy
        clear yb xb
        rw [svS] at hx hy
        by_cases he : L[k] = M[k]'(by omega)
        · have hq' := hid (take_next hq.out hlt (by omega) he)
          rw [← he] at hy
          generalize ByteArray.mk (L[k]).toArray = p at *
          have y1 : (p.toList == p.toList) = true := by simp
          have y2 : (p.toList != p.toList) = false := by simp
          clear hq he
          go_wp2
          go_quiet (fail)
          go_wp2
          exact ⟨⟨k + 1, by omega, by go_num, hq', hid (below_drewN hw'.out _)⟩, by simp [intOf]; omega⟩
        · obtain rfl : r = false := by
            rw [← hr.out, decide_eq_false_iff_not]
            intro e
            subst e
            exact he rfl
          have hne : (L[k] == M[k]'(by omega)) = false := by simpa using he
          generalize hp : L[k] = p at *
          generalize hq2 : (M[k]'(by omega)) = q at *
          clear hq he hr
          have y1 : ((ByteArray.mk p.toArray).toList == (ByteArray.mk q.toArray).toList) = false := by rw [ByteArray.toList_eq, ByteArray.toList_eq]; exact hne
          have y2 : ((ByteArray.mk p.toArray).toList != (ByteArray.mk q.toArray).toList) = true := by rw [bne, y1]; rfl
          go_wp2
          go_quiet (fail)
          go_wp2
          go_ret
          exact ⟨rfl, below_drewN hw'.out _⟩
      · have b0 : ¬ (k : Int) < (L.length : Int) := by omega
        obtain rfl : r = true := by
          rw [← hr.out, decide_eq_true_iff]
          have := hq.out
          rwa [List.take_of_length_le (by omega), List.take_of_length_le (by omega)] at this
        go_wp2
        go_ret
        exact ⟨rfl, hw'.out⟩
  · have e0 : ((L.length : Int) != (M.length : Int)) = true := by
      have : ¬ (L.length : Int) = (M.length : Int) := by omega
      simpa using this
    obtain rfl : r = false := by
      rw [← hr.out, decide_eq_false_iff_not]
      intro e
      subst e
      exact hlm rfl
    go_enter Tryz.func26, Tryz.ntmps26
    go_wp2
    go_ret
    exact ⟨rfl, Below.refl _ _⟩
end Go.Proofs.YthoekndjeclimaaGreatDoor

namespace Go.Proofs.YthoekndjeclimaaGreatDoor
open Go.RowKit
set_option maxRecDepth 100000 in
set_option maxHeartbeats 400000 in
theorem r4hashes_any (l : List (List UInt8)) (a : Option Addr) (cap : Nat) (w : World) (hc : l.length ≤ 9223372036854775807) (hA : At w a l) :
    Calls Tryz.prog 74 #[.slice a l.length cap] w fun e w' => e = .returned (.bool (l.all (·.length == 32))) ∧ w' = w := by
  generalize hn : l.length = n at *
  have HA := hid hA
  obtain ⟨z, hz⟩ : ∃ z, Hid (l.all (·.length == 32) = z) := ⟨_, rfl⟩
  rw [hz.out]
  clear hA
  go_enter Tryz.func74, Tryz.ntmps74
  go_wp2
  go_loopw [3] (fun i w' => ∃ k : Nat, k ≤ n ∧ i = .int .i64 (k : Int) ∧ Hid ((l.take k).all (·.length == 32) = true) ∧ w' = w) (fun i _ => n - (intOf i).toNat)
  case atStart => exact ⟨0, by omega, rfl, rfl, rfl⟩
  case round =>
    obtain ⟨k, hk, rfl, hall, rfl⟩ := hrel
    by_cases hkn : k < n
    · have b0 : (k : Int) < (n : Int) := by omega
      obtain ⟨x, rfl⟩ := HA.out.pos (by omega)
      obtain ⟨s, hs, hcell⟩ := HA.out.cell k (by omega)
      by_cases h32 : s.size = 32
      · have b1 : ((s.size : Int) != 32) = false := by simp; omega
        have e2 := hid (all_take l k (by omega) hall.out (by rw [← hs.out, data_length]; exact h32))
        clear HA
        go_wp2
        exact ⟨⟨k + 1, by omega, by go_num, e2, trivial⟩, by simp [intOf]; omega⟩
      · have b1 : ((s.size : Int) != 32) = true := by simp; omega
        have e2 := hid (all_not l k (by omega) (by rw [← hs.out, data_length]; exact h32))
        clear HA
        go_wp2
        go_ret
        exact ⟨by rw [← hz.out, e2.out]; rfl, rfl⟩
    · obtain rfl : k = n := by omega
      have b0 : ¬ (k : Int) < (k : Int) := by omega
      rw [← hn, List.take_length] at hall
      go_wp2
      go_ret
      exact ⟨by rw [← hz.out, hall.out]; rfl, rfl⟩
set_option maxRecDepth 100000 in
set_option maxHeartbeats 2000000 in
theorem r4node_any {l r N : List UInt8} (h : Hid (Tree.nd l r = N)) (w : World) :
    Calls Tryz.prog 101 #[sv l, sv r] w fun e w' => e = .returned (sv N) ∧ Below w.heap.size w w' := by
  obtain ⟨m, d, hm⟩ : ∃ m d, Hid (nodeOf l r = (m, d)) := ⟨_, _, rfl⟩
  have e' := hid (show N = m by rw [← h.out, ← nodeOf_nd, hm.out])
  go_enter Tryz.func101, Tryz.ntmps101
  go_wp2_with (go_at_call 105; refine (rnode_at hm _).mono ?_; rintro e w1 ⟨rfl, hw1⟩)
  go_ret
  exact ⟨by rw [e'.out]; rfl, hw1⟩
theorem split_last {l : List (List UInt8)} {k : Nat} (h : l.length = k) (hk : 1 ≤ k) : ∃ q h', q + 1 = k ∧ l = l.take q ++ [h'] ∧ (l.take q).length = q ∧ l[q]? = some h' := by
  refine ⟨k - 1, l[k - 1]'(by omega), by omega, ?_, by rw [List.length_take]; omega, List.getElem?_eq_getElem (by omega)⟩
  have := List.take_append_getElem (l := l) (i := k - 1) (by omega)
  have e : l.take k = l := List.take_of_length_le (by omega)
  rw [show k - 1 + 1 = k from by omega, e] at this
  exact this.symm
theorem drewBelow {w w' : World} (h : Below w.drew.heap.size w.drew w') : Below w.heap.size w w' := (Below.refl w.heap.size w).drew.trans h
set_option maxRecDepth 100000 in
set_option maxHeartbeats 2000000 in
theorem rup_any : ∀ (f n m : Nat) (leaf : List UInt8) (path : List (List UInt8)) (a : Option Addr) (cap : Nat) (w : World), n ≤ f → n ≤ 1099511627776 → m < n → path.length = (Tree.D n m).length → path.length ≤ cap → cap ≤ 9223372036854775807 → At w a path →
    Calls Tryz.prog 75 #[.int .i64 n, .int .i64 m, sv leaf, .slice a path.length cap] w fun e w' => e = .returned (sv (Tree.upd leaf (Tree.D n m) path)) ∧ Below w.heap.size w w' := by
  intro f
  induction f with
  | zero => intro n m leaf path a cap w hf _ hm; omega
  | succ f ih =>
    intro n m leaf path a cap w hf hn hm hlen hcap hc hA
    by_cases h1 : n < 2
    · have e0 := Tree.D_one m h1
      rw [e0] at hlen ⊢
      obtain rfl : path = [] := List.length_eq_zero_iff.1 hlen
      clear ih
      show Calls _ _ #[_, _, _, .slice a 0 cap] _ _
      go_enter Tryz.func75, Tryz.ntmps75
      go_wp2
      go_ret
      exact ⟨rfl, Below.refl _ _⟩
    · have k1 := Tree.sp_lt (n := n) (by omega)
      have k2 := Tree.sp_pos (n := n) (by omega)
      have hs := rsplit4_any n (by omega) (by omega)
      have dl := @Tree.D_left n m (by omega)
      have dr := @Tree.D_right n m (by omega)
      generalize Tree.sp n = k at *
      by_cases hmk : m < k
      · have e0 := dl hmk
        rw [e0] at hlen
        obtain ⟨kk, hkk⟩ : ∃ kk, path.length = kk := ⟨_, rfl⟩
        obtain ⟨q, h, hq, hpath, htl, hget⟩ := split_last hkk (by rw [← hkk, hlen]; simp)
        have i1 := fun w' (hA' : At w' a (path.take q)) => ih k m leaf (path.take q) a cap w' (by omega) (by omega) hmk (by rw [htl]; simp at hlen; omega) (by omega) hc hA'
        rw [htl] at i1
        have e1 : Hid (Tree.upd leaf (Tree.D n m) path = Tree.nd (Tree.upd leaf (Tree.D k m) (path.take q)) h) := by
          unfold Hid
          rw [e0]
          conv => lhs; rw [hpath]
          rw [Tree.upd_snoc _ _ _ _ _ (by rw [htl]; simp at hlen; omega)]; rfl
        generalize Tree.upd leaf (Tree.D n m) path = X at *
        generalize Tree.upd leaf (Tree.D k m) (path.take q) = Y at *
        obtain ⟨x, rfl, hxb, hcell⟩ := hA q h hget
        have A0 := hid (hA.take q)
        obtain ⟨N, hN⟩ : ∃ N, Hid (Tree.nd Y h = N) := ⟨_, rfl⟩
        have b0 : (m : Int) < (k : Int) := by omega
        have b1 : ((kk : Int) == 0) = false := by simp; omega
        have f0 : ¬ kk = 0 := by omega
        have f1 : (kk : Int) - 1 = (q : Int) := by omega
        have f2 : (q : Int) ≤ (cap : Int) := by omega
        have f3 : IntKind.i64.wrap (q : Int) = (q : Int) := wrap_small _ (by omega) (by omega)
        have f4 : (q : Int) < (kk : Int) := by omega
        have f5 : q ≤ cap := by omega
        rw [hkk] at hcap ⊢
        clear ih dl dr e0 hlen hget hpath htl hA hkk hq
        go_enter Tryz.func75, Tryz.ntmps75
        go_wp2_with (go_at_call 100; refine (hs _).mono ?_; rintro e w1 ⟨rfl, rfl⟩)
        have A1 := hid (A0.out.below (Below.refl w1.heap.size w1).drew (Nat.le_refl _))
        go_region_held3 (fun w' => w'.cell? (x.add q) = some (sv h)) (first | exact hcell3 | exact hcell2 | exact hcell) (first
          | (go_at_call 75; (with_reducible refine (i1 _ A1.out).mono ?_); rintro e w2 ⟨rfl, hw2'⟩; have hw2 := drewBelow hw2'; have hcell2 := (hw2.cell (p := x.add q) (by rw [addr_block]; exact hxb)).trans hcell)
          | (go_at_call 101; (with_reducible refine (r4node_any hN _).mono ?_); rintro e w3 ⟨rfl, hw3'⟩; have hw3 := hw2.trans (hw3'.mono hw2.size); have hcell3 := (hw3.cell (p := x.add q) (by rw [addr_block]; exact hxb)).trans hcell))
        go_wp2
        go_ret
        exact ⟨by rw [e1.out, hN.out]; rfl, hw3⟩
      · have e0 := dr hmk
        rw [e0] at hlen
        obtain ⟨kk, hkk⟩ : ∃ kk, path.length = kk := ⟨_, rfl⟩
        obtain ⟨q, h, hq, hpath, htl, hget⟩ := split_last hkk (by rw [← hkk, hlen]; simp)
        have i1 := fun w' (hA' : At w' a (path.take q)) => ih (n - k) (m - k) leaf (path.take q) a cap w' (by omega) (by omega) (by omega) (by rw [htl]; simp at hlen; omega) (by omega) hc hA'
        rw [htl, show ((m - k : Nat) : Int) = (m : Int) - (k : Int) from by omega, show ((n - k : Nat) : Int) = (n : Int) - (k : Int) from by omega] at i1
        have e1 : Hid (Tree.upd leaf (Tree.D n m) path = Tree.nd h (Tree.upd leaf (Tree.D (n - k) (m - k)) (path.take q))) := by
          unfold Hid
          rw [e0]
          conv => lhs; rw [hpath]
          rw [Tree.upd_snoc _ _ _ _ _ (by rw [htl]; simp at hlen; omega)]; rfl
        generalize Tree.upd leaf (Tree.D n m) path = X at *
        generalize Tree.upd leaf (Tree.D (n - k) (m - k)) (path.take q) = Y at *
        obtain ⟨x, rfl, hxb, hcell⟩ := hA q h hget
        have A0 := hid (hA.take q)
        obtain ⟨N, hN⟩ : ∃ N, Hid (Tree.nd h Y = N) := ⟨_, rfl⟩
        have g1 : IntKind.i64.wrap ((n : Int) - (k : Int)) = (n : Int) - (k : Int) := wrap_small _ (by omega) (by omega)
        have g2 : IntKind.i64.wrap ((m : Int) - (k : Int)) = (m : Int) - (k : Int) := wrap_small _ (by omega) (by omega)
        have b0 : ¬ (m : Int) < (k : Int) := by omega
        have b1 : ((kk : Int) == 0) = false := by simp; omega
        have f0 : ¬ kk = 0 := by omega
        have f1 : (kk : Int) - 1 = (q : Int) := by omega
        have f2 : (q : Int) ≤ (cap : Int) := by omega
        have f3 : IntKind.i64.wrap (q : Int) = (q : Int) := wrap_small _ (by omega) (by omega)
        have f4 : (q : Int) < (kk : Int) := by omega
        have f5 : q ≤ cap := by omega
        rw [hkk] at hcap ⊢
        clear ih dl dr e0 hlen hget hpath htl hA hkk hq
        go_enter Tryz.func75, Tryz.ntmps75
        go_wp2_with (go_at_call 100; refine (hs _).mono ?_; rintro e w1 ⟨rfl, rfl⟩)
        have A1 := hid (A0.out.below (Below.refl w1.heap.size w1).drew (Nat.le_refl _))
        go_region_held3 (fun w' => w'.cell? (x.add q) = some (sv h)) (first | exact hcell3 | exact hcell2 | exact hcell) (first
          | (go_at_call 75; (with_reducible refine (i1 _ A1.out).mono ?_); rintro e w2 ⟨rfl, hw2'⟩; have hw2 := drewBelow hw2'; have hcell2 := (hw2.cell (p := x.add q) (by rw [addr_block]; exact hxb)).trans hcell)
          | (go_at_call 101; (with_reducible refine (r4node_any hN _).mono ?_); rintro e w3 ⟨rfl, hw3'⟩; have hw3 := hw2.trans (hw3'.mono hw2.size); have hcell3 := (hw3.cell (p := x.add q) (by rw [addr_block]; exact hxb)).trans hcell))
        go_wp2
        go_ret
        exact ⟨by rw [e1.out, hN.out]; rfl, hw3⟩
end Go.Proofs.YthoekndjeclimaaGreatDoor
