import Derived.Test.YtfolaldjdefioaaDoorO27
namespace Go.Proofs.YtfolaldjdefioaaDoor
open Go.RowKit
set_option maxRecDepth 100000 in
set_option maxHeartbeats 800000 in
theorem same_yes (l : List (List UInt8)) (a d : Option Addr) (ca cd : Nat) (w : World) (ha : At w a l) (hd : At w d l) (hll : l.length ≤ 9223372036854775807) :
    Calls Tryd.prog 24 #[.slice a l.length ca, .slice d l.length cd] w fun e w' => e = .returned (.bool true) ∧ Below w.heap.size w w' ∧ w'.heap = w.heap := by
  have Ha := hid ha
  have Hd := hid hd
  clear ha hd
  go_enter Tryd.func24, Tryd.ntmps24
  go_wp2
  go_loopw [5] (fun i w' => ∃ k : Nat, k ≤ l.length ∧ i = .int .i64 k ∧ Hid (Below w.heap.size w w' ∧ w'.heap = w.heap)) (fun i _ => l.length - (intOf i).toNat)
  case atStart => exact ⟨0, by omega, rfl, hid ⟨Below.refl _ _, rfl⟩⟩
  case round =>
    obtain ⟨k, hk, rfl, hw'⟩ := hrel
    by_cases hlt : k < l.length
    · have b0 : (k : Int) < (l.length : Int) := by omega
      obtain ⟨x, rfl, xb, hx⟩ := Ha.out k l[k] (List.getElem?_eq_getElem hlt)
      rw [← hw'.out.1.cell (p := x.add k) (by rw [addr_block]; exact xb)] at hx
      clear xb
      obtain ⟨y, rfl, yb, hy⟩ := Hd.out k l[k] (List.getElem?_eq_getElem hlt)
      rw [← hw'.out.1.cell (p := y.add k) (by rw [addr_block]; exact yb)] at hy
      clear yb
      rw [svS] at hx hy
      generalize ByteArray.mk (l[k]).toArray = p at *
      have y1 : (p.toList == p.toList) = true := by simp
      have y2 : (p.toList != p.toList) = false := by simp
      go_wp2
      go_quiet (fail)
      go_wp2
      exact ⟨⟨k + 1, by omega, by go_num, hid ⟨below_drewN hw'.out.1 _, hw'.out.2⟩⟩, by simp [intOf]; omega⟩
    · have b0 : ¬ (k : Int) < (l.length : Int) := by omega
      go_wp2
      go_ret
      exact ⟨rfl, hw'.out.1, hw'.out.2⟩
set_option maxRecDepth 100000 in
set_option maxHeartbeats 400000 in
theorem digits_any (x : Nat) (hx : x ≤ 1000000) (w : World) :
    Calls Tryd.prog 22 #[.int .i64 x] w fun e w' => e = .returned (.int .i64 (Tree.dg x : Nat)) ∧ w' = w := by
  have hD := hid (show Tree.dg x = Tree.dg x from rfl)
  obtain ⟨D, hDD⟩ : ∃ D, Hid (Tree.dg x = D) := ⟨_, rfl⟩
  clear hD
  go_enter Tryd.func22, Tryd.ntmps22
  go_wp2
  go_loopw [0, 3] (fun n d w' => ∃ k c : Nat, k ≤ x ∧ c + k ≤ x ∧ n = .int .i64 (k : Int) ∧ d = .int .i64 (c : Int) ∧ Hid (c + Tree.dg k = D) ∧ w' = w) (fun n _ _ => (intOf n).toNat)
  case atStart => exact ⟨x, 0, by omega, by omega, rfl, rfl, by unfold Hid; rw [Nat.zero_add]; exact hDD.out, rfl⟩
  case round =>
    obtain ⟨k, c, hk, hck, rfl, rfl, hd, rfl⟩ := hrel
    by_cases hk0 : 0 < k
    · have b0 : (0 : Int) < (k : Int) := by omega
      have e1 : ((k : Int).tdiv 2) = ((k / 2 : Nat) : Int) := by rw [Int.tdiv_eq_ediv_of_nonneg (by omega)]; omega
      have e2 : IntKind.i64.wrap ((k / 2 : Nat) : Int) = ((k / 2 : Nat) : Int) := wrap_small _ (by omega) (by omega)
      have hh := Tree.dg_half hk0
      have hd' : Hid (c + 1 + Tree.dg (k / 2) = D) := by unfold Hid; rw [← hd.out, hh]; omega
      clear hd hh
      go_wp2
      refine ⟨⟨k / 2, c + 1, by omega, by omega, ?_, by go_num, hd', trivial⟩, ?_⟩
      · first | rfl | (congr 1; omega) | (simp; omega)
      · first | (simp [intOf]; omega) | omega
    · obtain rfl : k = 0 := by omega
      have b0 : ¬ (0 : Int) < ((0 : Nat) : Int) := by omega
      have e : Hid (c = D) := by unfold Hid; rw [← hd.out]; rfl
      clear hd
      go_wp2
      go_ret
      exact ⟨by rw [hDD.out, ← e.out]; rfl, rfl⟩
def bls (L : List Bool) : List Value := L.map .bool
theorem bls_length (L : List Bool) : (bls L).length = L.length := by simp [bls]
theorem infoB : (Tryd.prog.info? 4).map (fun i => (i.zero, i.size, i.bytes)) = some (some (.bool false), 1, 1) := by kernel_rfl
/-- append(l, b) -/
theorem append_bool (w : World) (base : Nat) (v : Value) (L : List Bool) (p : Bool) (hown : Own w base v (bls L)) (hlen : L.length ≤ 2000000) (hbase : base ≤ w.heap.size) :
    ∃ v' w', (Builtin.append_ #[40, 40] 40 #[v, .slice (some ⟨w.heap.size, 0, none⟩) 1 1]).run Tryd.prog (w.alloc (.cells #[.bool p] 4)) = .ok v' w' ∧ Own w' base v' (bls (L ++ [p])) ∧ Below base w w' := by
  obtain ⟨i0, hi, hz0, hz1, hz2⟩ := info_parts infoB
  have hsrc : Src Tryd.prog 1 40 (.slice (some ⟨w.heap.size, 0, none⟩) 1 1) 1 [.bool p] (w.alloc (.cells #[.bool p] 4)) :=
    Src.ofSlice _ Tryd.underlying40 ⟨w.heap.size, 0, none⟩ 1 1 [.bool p] (by simp) (fun j u hj => by
      rw [Addr.add_mid, cell_of_row _ _ _ _ _ _ (heap_alloc_new w _), Nat.zero_add]; simpa using hj) (fun u hu => by simp at hu; subst hu; rfl)
  obtain ⟨v', w', h1, h2, h3, h4⟩ := run_append_O (P := Tryd.prog) (w.alloc (.cells #[.bool p] 4)) base 40 40 40 4 i0 (.bool false) Tryd.underlying40 hi hz0 hz1 rfl v (bls L) (hown.alloc _) _ 1 [.bool p] hsrc
    (by rw [bls_length, hz2]; omega) (by rw [bls_length, maxLen]; omega) (by rw [size_alloc]; omega) (fun _ => by omega)
  refine ⟨v', w', h1, by simpa [bls] using h2, ?_⟩
  exact ((Below.refl base w).alloc hbase _).trans (Below.ofGrown h3 hown.ge (by rw [size_alloc]; omega))
/-- a list of yes and no -/
def OutB (w : World) (L : List Bool) (e : Ending) (w' : World) : Prop := ∃ v, e = .returned v ∧ Own w' w.heap.size v (bls L) ∧ Below w.heap.size w w'
set_option maxRecDepth 100000 in
set_option maxHeartbeats 400000 in
theorem right_one (m : Int) (w : World) : Calls Tryd.prog 21 #[.int .i64 m, .int .i64 1] w (OutB w []) := by
  go_enter Tryd.func21, Tryd.ntmps21
  go_wp2
  go_ret
  exact ⟨_, rfl, Own.nil _ _, Below.refl _ _⟩
def sides (m : Nat) (l : List (List UInt8)) : List Bool := (Tree.zp m l).map (·.1)
set_option maxRecDepth 100000 in
set_option maxHeartbeats 2000000 in
theorem right_any : ∀ (f : Nat) (l : List (List UInt8)) (m : Nat) (w : World), l.length ≤ f → l.length ≤ 1000000 → m < l.length →
    Calls Tryd.prog 21 #[.int .i64 m, .int .i64 (l.length : Nat)] w (OutB w (sides m l)) := by
  intro f
  induction f with
  | zero => intro l m w hf _ hm; omega
  | succ f ih =>
    intro l m w hf hM hm
    by_cases h1 : l.length = 1
    · rw [h1, sides, Tree.zp_small (by omega)]
      exact right_one m w
    · obtain ⟨n, hn⟩ : ∃ n, l.length = n := ⟨_, rfl⟩
      have h2 : 2 ≤ n := by omega
      have e := Tree.zp_cut (m := m) (l := l) (by rw [hn]; exact h2)
      have hlen := Tree.path_length _ m l (Nat.le_refl _)
      rw [Tree.path_zp _ m l (Nat.le_refl _), List.length_map] at hlen
      rw [hn] at e hf hm h1 hM ⊢
      have k1 := Tree.sp_lt h2
      have k2 := Tree.sp_pos h2
      have hh := half_any n h2 (by omega)
      generalize Tree.sp n = k at *
      have l1 : (l.take k).length = k := by rw [List.length_take, hn]; omega
      have l2 : (l.drop k).length = n - k := by rw [List.length_drop, hn]
      have n2 : ((n : Int) == 1) = false := by simp; omega
      by_cases hmk : m < k
      · have b0 : (m : Int) < (k : Int) := by omega
        rw [if_pos hmk] at e
        have e' := hid (show sides m l = sides m (l.take k) ++ [true] by rw [sides, e, List.map_append]; rfl)
        have c1 := ih (l.take k) m w (by omega) (by omega) (by omega)
        have hL : (sides m (l.take k)).length ≤ 1000000 := by
          have := congrArg List.length e
          simp [sides] at this ⊢
          omega
        rw [l1] at c1
        generalize sides m (l.take k) = L at *
        clear ih e
        go_enter Tryd.func21, Tryd.ntmps21
        go_wp2_with (first
          | (go_at_call 41; refine (hh _).mono ?_; rintro e w0 ⟨rfl, rfl⟩)
          | (go_at_call 21; refine c1.mono ?_; rintro e w1 ⟨v1, rfl, hO1, hw1⟩; obtain ⟨v3, w3, hap, hO3, hb3⟩ := append_bool w1 w0.heap.size v1 L true hO1 (by omega) hw1.size)
          | (at_builtin; go_must (refine Lib.wpList_append_run _ rfl _ _ 40 40 rfl _ _ rfl rfl _ _ hap ?_)))
        go_ret
        exact ⟨_, rfl, by rw [e'.out]; exact hO3, hw1.trans hb3⟩
      · have b0 : ¬ (m : Int) < (k : Int) := by omega
        rw [if_neg hmk] at e
        have e' := hid (show sides m l = sides (m - k) (l.drop k) ++ [false] by rw [sides, e, List.map_append]; rfl)
        have c1 := ih (l.drop k) (m - k) w (by omega) (by omega) (by omega)
        have hL : (sides (m - k) (l.drop k)).length ≤ 1000000 := by
          have := congrArg List.length e
          simp [sides] at this ⊢
          omega
        rw [l2, show ((m - k : Nat) : Int) = (m : Int) - (k : Int) from by omega, show ((n - k : Nat) : Int) = (n : Int) - (k : Int) from by omega] at c1
        generalize sides (m - k) (l.drop k) = L at *
        clear ih e
        go_enter Tryd.func21, Tryd.ntmps21
        go_wp2_with (first
          | (go_at_call 41; refine (hh _).mono ?_; rintro e w0 ⟨rfl, rfl⟩)
          | (go_at_call 21; refine c1.mono ?_; rintro e w1 ⟨v1, rfl, hO1, hw1⟩; obtain ⟨v3, w3, hap, hO3, hb3⟩ := append_bool w1 w0.heap.size v1 L false hO1 (by omega) hw1.size)
          | (at_builtin; go_must (refine Lib.wpList_append_run _ rfl _ _ 40 40 rfl _ _ rfl rfl _ _ hap ?_)))
        go_ret
        exact ⟨_, rfl, by rw [e'.out]; exact hO3, hw1.trans hb3⟩
end Go.Proofs.YtfolaldjdefioaaDoor
