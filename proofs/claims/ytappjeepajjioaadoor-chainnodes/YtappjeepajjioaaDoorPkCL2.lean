import Derived.Test.YtappjeepajjioaaDoorPkI9c
import Derived.Test.YtappjeepajjioaaDoorPkO8
import Derived.Test.YtappjeepajjioaaDoorPkCK4
import Derived.Test.YtappjeepajjioaaDoorPkSF4
namespace Go.Proofs.YtappjeepajjioaaDoor
open Go.RowKit Go.Shelf
namespace Chn
/-- numbers as cells -/
def ivC (l : List Nat) : List Value := l.map fun (x : Nat) => .int .i64 (x : Int)
theorem ivC_len (l : List Nat) : (ivC l).length = l.length := by simp [ivC]
theorem infoIC : (Tryd.prog.info? 3).map (fun i => (i.zero, i.size, i.bytes)) = some (some (.int .i64 0), 1, 8) := by kernel_rfl
theorem append_intC (w : World) (v : Value) (l : List Nat) (x : Nat) (h : OwnM 1 w v l.length (ivC l)) (hl : l.length ≤ 1000000) :
    ∃ v' w', (Builtin.append_ #[22, 22] 22 #[v, .slice (some ⟨w.heap.size, 0, none⟩) 1 1]).run Tryd.prog (w.alloc (.cells #[.int .i64 (x : Int)] 3)) = .ok v' w' ∧ OwnM 1 w' v' (l ++ [x]).length (ivC (l ++ [x])) ∧ Grow w w' v v' := by
  obtain ⟨v', w', h1, h2, h3⟩ := append_oneL 22 3 (.int .i64 0) 8 Tryd.underlying22 infoIC rfl w v l.length (ivC l) [.int .i64 (x : Int)] rfl (fun u hu => by
    rw [List.mem_singleton] at hu; rw [hu]; rfl) h (by omega) (by rw [maxLen]; omega)
  refine ⟨v', w', h1, ?_, h3⟩
  have e : ivC (l ++ [x]) = ivC l ++ [.int .i64 (x : Int)] := by unfold ivC; rw [List.map_append]; rfl
  rw [e, List.length_append]
  exact h2
theorem OwnM.atIC {w : World} {a : Option Addr} {n c : Nat} {l : List Nat} (h : OwnM 1 w (.slice a n c) n (ivC l)) : AtI w a (ix l) := fun j p hp => by
  unfold ix at hp
  rw [List.getElem?_map] at hp
  cases hj : l[j]? with
  | none => rw [hj] at hp; cases hp
  | some x =>
    rw [hj] at hp
    obtain rfl : (x : Int) = p := Option.some.inj hp
    obtain ⟨g, cap, e, h1, h2⟩ := h.cell (j := j) (u := .int .i64 (x : Int)) (by unfold ivC; rw [List.getElem?_map, hj]; rfl)
    injection e with e
    refine ⟨⟨g, 0, none⟩, e, h2, ?_⟩
    rw [Addr.add_mid, Nat.zero_add]
    exact h1
/-- heads that rise, up to n -/
structure Rsg (n at_ : Nat) (l : List Nat) : Prop where
  up : l.Pairwise (· < ·)
  lo : ∀ x ∈ l, 1 ≤ x ∧ x < at_ ∧ x ≤ n
theorem Rsg.next {n a p : Nat} {l : List Nat} (h : Rsg n a l) (h1 : 1 ≤ a) (hp : a + p ≤ n) : Rsg n (a + p + 1) (l ++ [a + p]) := by
  refine ⟨List.pairwise_append.2 ⟨h.up, List.pairwise_singleton _ _, fun x hx y hy => ?_⟩, fun x hx => ?_⟩
  · rw [List.mem_singleton.1 hy]
    have := h.lo x hx
    omega
  · rcases List.mem_append.1 hx with hx | hx
    · have := h.lo x hx
      omega
    · rw [List.mem_singleton.1 hx]
      omega
theorem Rsg.hds {n a : Nat} {l : List Nat} (h : Rsg n a l) (h1 : 1 ≤ l.length) (h2 : l.length ≤ 64) (hn : n ≤ 1099511627776) : Hds l := by
  refine ⟨h1, h2, fun i x y hx hy => ?_, fun i x hx => ?_⟩
  · have e1 := List.getElem?_eq_some_iff.1 hx
    have e2 := List.getElem?_eq_some_iff.1 hy
    have := List.pairwise_iff_getElem.1 h.up i (i + 1) e1.1 e2.1 (by omega)
    rw [e1.2, e2.2] at this
    exact this
  · have := h.lo x (List.mem_of_getElem? hx)
    omega
/-- what rising answers -/
def RsP (w : World) (n most : Nat) (r : Ending) (w' : World) : Prop := ∃ v hs, r = .returned v ∧ OwnM 1 w' v hs.length (ivC hs) ∧ Hds hs ∧ (∀ x ∈ hs, x ≤ n) ∧ hs.length ≤ most ∧ (∀ k, v.ownBlock = some k → w.heap.size ≤ k) ∧ Below w.heap.size w w'
/-- while heads are made -/
structure Rm (w w' : World) (v : Value) (n a : Nat) (l : List Nat) : Prop where
  own : OwnM 1 w' v l.length (ivC l)
  rs : Rsg n a l
  ge : ∀ k, v.ownBlock = some k → w.heap.size ≤ k
  bel : Below w.heap.size w w'
theorem Rm.push {w w' w2 : World} {v v' : Value} {n a p : Nat} {l : List Nat} (h : Rm w w' v n a l) (h1 : 1 ≤ a) (hp : a + p ≤ n) (ho : OwnM 1 w2 v' (l ++ [a + p]).length (ivC (l ++ [a + p]))) (g : Grow w' w2 v v') : Rm w w2 v' n (a + p + 1) (l ++ [a + p]) :=
  ⟨ho, h.rs.next h1 hp, fun k hk => by
    have := h.bel.size
    rcases Grow.alt' g k hk with e | e
    · exact h.ge k e
    · omega, h.bel.trans (keep_belowC g.keep h.bel.size h.ge)⟩
set_option maxRecDepth 100000 in
set_option maxHeartbeats 2000000 in
theorem rising13_any (L : List Int) (n most : Nat) (hn : 1 ≤ n) (hn2 : n ≤ 1099511627776) (hm : 1 ≤ most) (hm2 : most ≤ 64) (N : Nat) (hN : Hid (L.length = N)) (lN : N ≤ 9223372036854775807) (a : Option Addr) (cap : Nat) (w : World) (hA : AtI w a L) (hr : ∀ c ∈ L, -9223372036854775808 ≤ c ∧ c ≤ 9223372036854775807) :
    Calls Tryd.prog 7 #[.slice a N cap, .int .i64 (n : Int), .int .i64 (most : Int)] w (RsP w n most) := by
  have HA := hid hA
  have HR := hid hr
  clear hA hr
  go_enter Tryd.func7, Tryd.ntmps7
  go_wp2
  go_loopw [7, 8, 9, 10] (fun v p i _ w' => ∃ (k at_ : Nat) (l : List Nat), k ≤ N ∧ 1 ≤ at_ ∧ at_ ≤ n + 1 ∧ l.length ≤ most ∧ (k = 0 ∨ 1 ≤ l.length) ∧ (l.length = 0 → at_ = 1) ∧ p = .int .i64 (at_ : Int) ∧ i = .int .i64 (k : Int) ∧ Hid (Rm w w' v n at_ l)) (fun _ _ i _ _ => N - (intOf i).toNat)
  case atStart => exact ⟨0, 1, [], by omega, by omega, by omega, by simp, .inl rfl, fun _ => rfl, rfl, rfl, ⟨OwnM.nil 1 _, ⟨List.Pairwise.nil, (fun x h => by cases h)⟩, (fun k hk => by cases hk), Below.refl _ _⟩⟩
  case round =>
    obtain ⟨k, p, l, hk, hp1, hp2, hl, hk0, hl0, rfl, rfl, hM⟩ := hrel
    obtain ⟨va, vc, hva, _, _⟩ := hM.out.own.shape
    obtain ⟨q, hq⟩ : ∃ q, l.length = q := ⟨_, rfl⟩
    have HQ := hid hq
    rw [hq] at hva hl hk0 hl0
    subst hva
    have e2 : (q : Int) ≤ (most : Int) := by omega
    by_cases c1 : k < N
    · have d1 : (k : Int) < (N : Int) := by omega
      by_cases c2 : q < most
      · have d2 : (q : Int) < (most : Int) := by omega
        by_cases c3 : p ≤ n
        · have d3 : (p : Int) ≤ (n : Int) := by omega
          have w1 : IntKind.i64.wrap ((n : Int) - (p : Int)) = (n : Int) - (p : Int) := by rw [IntKind.wrap_i64]; omega
          have w2 : IntKind.i64.wrap ((n : Int) - (p : Int) + 1) = (n : Int) - (p : Int) + 1 := by rw [IntKind.wrap_i64]; omega
          have hkL : k < L.length := by rw [hN.out]; exact c1
          obtain ⟨x, rfl, _, hx⟩ := (HA.out.below hM.out.bel (Nat.le_refl _)) k L[k] (List.getElem?_eq_getElem hkL)
          have hb := HR.out L[k] (List.getElem_mem hkL)
          have j0 : (0 : Int) ≤ (k : Int) := by omega
          generalize L[k] = c at *
          have key : ∀ r : Int, 1 ≤ r → r ≤ (n : Int) - (p : Int) + 1 → ∃ P : Nat, pk c r = (P : Int) ∧ p + P ≤ n := fun r h1 h2 => by
            have a1 := pk_nonneg c r (by omega)
            have a2 := pk_lt c r (by omega)
            exact ⟨(pk c r).toNat, by omega, by omega⟩
          by_cases par : k % 2 = 0 ∧ 9 < n - p + 1
          · have m1 : (k : Int) % 2 = 0 := by omega
            have m2 : (9 : Int) < (n : Int) - (p : Int) + 1 := by omega
            have m3 : (k : Int).tmod 2 = 0 := by rw [Int.tmod_eq_emod_of_nonneg (by omega)]; omega
            obtain ⟨P, hP, hPn⟩ := key 9 (by omega) (by omega)
            have i1 := pick_any c 9 hb.1 hb.2 (by omega) (by omega) wr
            rw [hP] at i1
            have s1 : IntKind.i64.wrap ((p : Int) + (P : Int)) = (p : Int) + (P : Int) := by rw [IntKind.wrap_i64]; omega
            have s2 : IntKind.i64.wrap ((p : Int) + (P : Int) + 1) = (p : Int) + (P : Int) + 1 := by rw [IntKind.wrap_i64]; omega
            obtain ⟨v', w3, hap, O3, G3⟩ := append_intC wr (.slice va q vc) l (p + P) hM.out.own (by rw [HQ.out]; omega)
            have M3 := hid (hM.out.push hp1 hPn O3 G3)
            have e5 : ((p + P : Nat) : Int) = (p : Int) + (P : Int) := by omega
            rw [e5] at hap
            clear O3 G3 key hP hb
            go_wp2_with (first
              | (go_at_call 8; refine i1.mono ?_; rintro r w2' ⟨rfl, h2⟩; have h2 := h2.symm; subst h2)
              | (at_builtin; go_must (refine Lib.wpList_append_run _ rfl _ _ 22 22 rfl _ _ rfl rfl _ _ hap ?_)))
            exact ⟨⟨k + 1, p + P + 1, l ++ [p + P], by omega, by omega, by omega, by rw [List.length_append, HQ.out, List.length_singleton]; omega, .inr (by simp), (fun e => by simp at e), by go_num, by go_num, M3⟩, by simp [intOf]; omega⟩
          · obtain ⟨P, hP, hPn⟩ := key ((n : Int) - (p : Int) + 1) (by omega) (by omega)
            have i1 := pick_any c ((n : Int) - (p : Int) + 1) hb.1 hb.2 (by omega) (by omega) wr
            rw [hP] at i1
            by_cases m0 : k % 2 = 0
            · have m1 : (k : Int) % 2 = 0 := by omega
              have m2 : ¬ (9 : Int) < (n : Int) - (p : Int) + 1 := by omega
              have m3 : (k : Int).tmod 2 = 0 := by rw [Int.tmod_eq_emod_of_nonneg (by omega)]; omega
              have s1 : IntKind.i64.wrap ((p : Int) + (P : Int)) = (p : Int) + (P : Int) := by rw [IntKind.wrap_i64]; omega
              have s2 : IntKind.i64.wrap ((p : Int) + (P : Int) + 1) = (p : Int) + (P : Int) + 1 := by rw [IntKind.wrap_i64]; omega
              obtain ⟨v', w3, hap, O3, G3⟩ := append_intC wr (.slice va q vc) l (p + P) hM.out.own (by rw [HQ.out]; omega)
              have M3 := hid (hM.out.push hp1 hPn O3 G3)
              have e5 : ((p + P : Nat) : Int) = (p : Int) + (P : Int) := by omega
              rw [e5] at hap
              clear O3 G3 key hP hb
              go_wp2_with (first
                | (go_at_call 8; refine i1.mono ?_; rintro r w2' ⟨rfl, h2⟩; have h2 := h2.symm; subst h2)
                | (at_builtin; go_must (refine Lib.wpList_append_run _ rfl _ _ 22 22 rfl _ _ rfl rfl _ _ hap ?_)))
              exact ⟨⟨k + 1, p + P + 1, l ++ [p + P], by omega, by omega, by omega, by rw [List.length_append, HQ.out, List.length_singleton]; omega, .inr (by simp), (fun e => by simp at e), by go_num, by go_num, M3⟩, by simp [intOf]; omega⟩
            · have m1 : ¬ (k : Int) % 2 = 0 := by omega
              have m3 : ¬ (k : Int).tmod 2 = 0 := by rw [Int.tmod_eq_emod_of_nonneg (by omega)]; omega
              have s1 : IntKind.i64.wrap ((p : Int) + (P : Int)) = (p : Int) + (P : Int) := by rw [IntKind.wrap_i64]; omega
              have s2 : IntKind.i64.wrap ((p : Int) + (P : Int) + 1) = (p : Int) + (P : Int) + 1 := by rw [IntKind.wrap_i64]; omega
              obtain ⟨v', w3, hap, O3, G3⟩ := append_intC wr (.slice va q vc) l (p + P) hM.out.own (by rw [HQ.out]; omega)
              have M3 := hid (hM.out.push hp1 hPn O3 G3)
              have e5 : ((p + P : Nat) : Int) = (p : Int) + (P : Int) := by omega
              rw [e5] at hap
              clear O3 G3 key hP hb
              go_wp2_with (first
                | (go_at_call 8; refine i1.mono ?_; rintro r w2' ⟨rfl, h2⟩; have h2 := h2.symm; subst h2)
                | (at_builtin; go_must (refine Lib.wpList_append_run _ rfl _ _ 22 22 rfl _ _ rfl rfl _ _ hap ?_)))
              exact ⟨⟨k + 1, p + P + 1, l ++ [p + P], by omega, by omega, by omega, by rw [List.length_append, HQ.out, List.length_singleton]; omega, .inr (by simp), (fun e => by simp at e), by go_num, by go_num, M3⟩, by simp [intOf]; omega⟩
        · have d3 : ¬ (p : Int) ≤ (n : Int) := by omega
          have d4 : ¬ (q : Int) = 0 := by omega
          clear hq
          go_wp2
          go_ret
          exact ⟨_, l, rfl, hM.out.own, hM.out.rs.hds (by rw [HQ.out]; omega) (by rw [HQ.out]; omega) hn2, fun x hx => (hM.out.rs.lo x hx).2.2, by rw [HQ.out]; omega, hM.out.ge, hM.out.bel⟩
      · have d2 : ¬ (q : Int) < (most : Int) := by omega
        have d4 : ¬ (q : Int) = 0 := by omega
        clear hq
        go_wp2
        go_ret
        exact ⟨_, l, rfl, hM.out.own, hM.out.rs.hds (by rw [HQ.out]; omega) (by rw [HQ.out]; omega) hn2, fun x hx => (hM.out.rs.lo x hx).2.2, by rw [HQ.out]; omega, hM.out.ge, hM.out.bel⟩
    · have d1 : ¬ (k : Int) < (N : Int) := by omega
      by_cases c4 : q = 0
      · have d4 : (q : Int) = 0 := by omega
        obtain rfl : l = [] := List.eq_nil_of_length_eq_zero (by rw [HQ.out]; exact c4)
        obtain rfl : p = 1 := hl0 c4
        subst c4
        obtain ⟨v', w3, hap, O3, G3⟩ := append_intC wr (.slice va 0 vc) [] (1 + (n - 1)) hM.out.own (by simp)
        have M3 := hid (hM.out.push (by omega) (by omega) O3 G3)
        have e5 : ((1 + (n - 1) : Nat) : Int) = (n : Int) := by omega
        rw [e5] at hap
        clear O3 G3 hq
        go_wp2_with (at_builtin; go_must (refine Lib.wpList_append_run _ rfl _ _ 22 22 rfl _ _ rfl rfl _ _ hap ?_))
        go_ret
        exact ⟨_, _, rfl, M3.out.own, M3.out.rs.hds (by simp) (by simp) hn2, fun x hx => (M3.out.rs.lo x hx).2.2, by simp; omega, M3.out.ge, M3.out.bel⟩
      · have d4 : ¬ (q : Int) = 0 := by omega
        clear hq
        go_wp2
        go_ret
        exact ⟨_, l, rfl, hM.out.own, hM.out.rs.hds (by rw [HQ.out]; omega) (by rw [HQ.out]; omega) hn2, fun x hx => (hM.out.rs.lo x hx).2.2, by rw [HQ.out]; omega, hM.out.ge, hM.out.bel⟩
end Chn
end Go.Proofs.YtappjeepajjioaaDoor

namespace Go.Proofs.YtappjeepajjioaaDoor
open Go.RowKit Go.Shelf
namespace Chn
theorem row_pre {w : World} {H : Nat} {L M : List Int} (h : RowZ w H (L ++ M)) : AtI w (some ⟨H, 0, none⟩) L := fun j p hp => h.at j p (by rw [List.getElem?_append_left (List.getElem?_eq_some_iff.1 hp).1]; exact hp)
/-- one more, as the machine reckons -/
def inc8 (x : Int) : Int := IntKind.i64.wrap (x + 1)
theorem take_inc (ps : List Int) {j : Nat} (hj : j < ps.length) : (ps.take (j + 1)).map inc8 = (ps.take j).map inc8 ++ [inc8 ps[j]] := by
  rw [List.take_succ_eq_append_getElem hj, List.map_append]; rfl
theorem append_zC (w : World) (v : Value) (l : List Int) (x : Int) (h : OwnM 1 w v l.length (ivz l)) (hl : l.length ≤ 17592186044414) :
    ∃ v' w', (Builtin.append_ #[22, 22] 22 #[v, .slice (some ⟨w.heap.size, 0, none⟩) 1 1]).run Tryd.prog (w.alloc (.cells #[.int .i64 x] 3)) = .ok v' w' ∧ OwnM 1 w' v' (l ++ [x]).length (ivz (l ++ [x])) ∧ Grow w w' v v' := by
  have h' := append_oneL 22 3 (.int .i64 0) 8 Tryd.underlying22 infoZ rfl w v l.length (ivz l) [.int .i64 x] rfl (fun u hu => by
    simp only [List.mem_cons, List.not_mem_nil, or_false] at hu
    subst hu; rfl) h (by omega) (by rw [maxLen]; omega)
  obtain ⟨v', w', a1, a2, a3⟩ := h'
  refine ⟨v', w', a1, ?_, a3⟩
  rw [show ivz (l ++ [x]) = ivz l ++ [.int .i64 x] by simp [ivz], List.length_append]
  exact a2
theorem own_atZ {w : World} {v : Value} {l : List Int} (h : OwnM 1 w v l.length (ivz l)) : ∃ a c, v = .slice a l.length c ∧ AtI w a l := by
  obtain ⟨a, c, e, _, _⟩ := h.shape
  refine ⟨a, c, e, fun j p hp => ?_⟩
  obtain ⟨g, c', e1, h1, h2⟩ := h.cell (j := j) (u := .int .i64 p) (by simp [ivz, hp])
  rw [e] at e1
  injection e1 with e1
  exact ⟨⟨g, 0, none⟩, e1, h2, by rw [Addr.add_mid, Nat.zero_add]; exact h1⟩
/-- copy over a row's beginning -/
theorem copy_over13 (w : World) (H : Nat) (a : Option Addr) (cap' : Nat) (old ps rest : List Int) (ho : old.length = ps.length) (hs : AtI w a ps) (hR : RowZ w H (old ++ rest)) (cap : Nat) :
    ∃ w', (Builtin.copy_ #[22, 22] 3 #[.slice (some ⟨H, 0, none⟩) ps.length cap, .slice a ps.length cap']).run Tryd.prog w = .ok (goInt ps.length) w' ∧ RowZ w' H (ps ++ rest) ∧ But H w w' := by
  by_cases h0 : ps.length = 0
  · obtain rfl : ps = [] := List.length_eq_zero_iff.1 h0
    obtain rfl : old = [] := List.length_eq_zero_iff.1 (by omega)
    exact ⟨w, run_copy_none (P := Tryd.prog) w _ _ _ 3 _ _ _ _ _ _ Tryd.underlying22 infoZ1 (by simp), by simpa using hR, But.refl _ _⟩
  · obtain ⟨x, rfl, hx, _⟩ := hs 0 _ (List.getElem?_eq_getElem (by omega))
    have h := run_copy_row (P := Tryd.prog) w 22 22 3 3 H 0 ps.length cap x ps.length cap' _ 3 (ivz ps) Tryd.underlying22 infoZ1 hR
      (by rw [ivz_len]; exact (Nat.min_self _).symm) (fun j u hu => by
        simp only [ivz, List.getElem?_map, Option.map_eq_some_iff] at hu
        obtain ⟨p, hp, rfl⟩ := hu
        obtain ⟨y, hy, _, hc⟩ := hs j p hp
        cases hy
        exact hc) (by simp [ivz]; omega) (fun u hu => ivz_one hu)
    refine ⟨_, h.trans (by rw [ivz_len]), ?_, (But.refl _ _).setRow _⟩
    unfold RowZ
    rw [setRow_heap _ _ _ _ _ _ hR]
    refine congrArg (fun A => some (Obj.cells A 3 (0, 0))) ?_
    simp [ivz, ho]
/-- a list that was there ahead of the book's lists -/
theorem Bh.atI {B0 X : Nat} {w0 w : World} {ρ : Nat → Nat} {vh vw : Value} {hv wv : List Value} {Ws : List (List (Nat × Nat))} (h : Bh B0 X w0 ρ w vh vw hv wv Ws) {a : Option Addr} {l : List Int} (hA : AtI w0 a l) (hX : ∀ x : Addr, a = some x → l ≠ [] → x.block ≠ X) : AtI w a l := fun j p hp => by
  obtain ⟨x, e, h1, h2⟩ := hA j p hp
  have hb := h.fr x.block h1 (hX x e (by rintro rfl; cases hp))
  exact ⟨x, e, Nat.lt_of_lt_of_le h1 h.bel.size, (World.cell?_of_block (a := x.add j) (by rw [addr_block]; exact hb)).trans h2⟩
theorem ndL_few (cs : List Int) : (ndL cs).length ≤ 2583 := by
  unfold ndL
  split
  · rename_i hb
    obtain ⟨hs, rfl, HH⟩ := mayB_hds hb
    rw [ix_toN]
    exact tol_few HH (by have := HH.ne; omega)
  · simp
/-- a list of numbers that is made -/
structure Nx (w w' : World) (v : Value) (l : List Int) : Prop where
  own : OwnM 1 w' v l.length (ivz l)
  ge : ∀ k, v.ownBlock = some k → w.heap.size ≤ k
  bel : Below w.heap.size w w'
theorem Nx.push {w w' w2 : World} {v v' : Value} {l : List Int} {x : Int} (h : Nx w w' v l) (ho : OwnM 1 w2 v' (l ++ [x]).length (ivz (l ++ [x]))) (g : Grow w' w2 v v') : Nx w w2 v' (l ++ [x]) :=
  ⟨ho, fun k hk => by
    have := h.bel.size
    rcases Grow.alt' g k hk with e | e
    · exact h.ge k e
    · omega, h.bel.trans (keep_belowC g.keep h.bel.size h.ge)⟩
set_option maxRecDepth 100000 in
set_option maxHeartbeats 2000000 in
theorem next13_any (ps : List Int) (n : Nat) (hn : Hid (ps.length = n)) (a : Option Addr) (cap : Nat) (w : World) (ln : n ≤ 17592186044400) (hA : AtI w a ps) :
    Calls Tryd.prog 16 #[.slice a n cap] w fun r w' => ∃ v, r = .returned v ∧ Nx w w' v (ps.map inc8) := by
  have HA := hid hA
  clear hA
  go_enter Tryd.func16, Tryd.ntmps16
  go_wp2
  go_loopw [3, 4] (fun v i w' => ∃ J : Nat, J ≤ n ∧ i = .int .i64 (J : Int) ∧ Hid (Nx w w' v ((ps.take J).map inc8))) (fun _ i _ => n - (intOf i).toNat)
  case atStart => exact ⟨0, by omega, rfl, ⟨OwnM.nil 1 _, (fun k hk => by cases hk), Below.refl _ _⟩⟩
  case round =>
    obtain ⟨J, hJ, rfl, hL⟩ := hrel
    by_cases hJn : J < n
    · have c1 : (J : Int) < (n : Int) := by omega
      have j0 : (0 : Int) ≤ (J : Int) := by omega
      have hJp : J < ps.length := by rw [hn.out]; exact hJn
      obtain ⟨x, rfl, _, hx⟩ := (HA.out.below hL.out.bel (Nat.le_refl _)) J ps[J] (List.getElem?_eq_getElem hJp)
      obtain ⟨v', w3, hap, O3, G3⟩ := append_zC wr u3 ((ps.take J).map inc8) (inc8 ps[J]) hL.out.own (by simp; omega)
      have M3 := hL.out.push O3 G3
      rw [← take_inc ps hJp] at M3
      have M4 := hid M3
      generalize ps[J] = z at *
      have hz : IntKind.i64.wrap (z + 1) = inc8 z := rfl
      have hz2 : wrap64 (z + 1) = inc8 z := by unfold wrap64 inc8; rw [IntKind.wrap_i64]
      generalize inc8 z = y at *
      clear O3 G3 M3 hL
      go_wp2_with (at_builtin; go_must (refine Lib.wpList_append_run _ rfl _ _ 22 22 rfl _ _ rfl rfl _ _ hap ?_))
      exact ⟨⟨J + 1, by omega, by go_num, M4⟩, by simp [intOf]; omega⟩
    · obtain rfl : J = n := by omega
      have c1 : ¬ (J : Int) < (J : Int) := by omega
      have hL2 := hL.out
      rw [List.take_of_length_le (by rw [hn.out]; exact Nat.le_refl _)] at hL2
      have HL := hid hL2
      clear hL hL2
      go_wp2
      go_ret
      exact ⟨_, rfl, HL.out⟩
end Chn
end Go.Proofs.YtappjeepajjioaaDoor

namespace Go.Proofs.YtappjeepajjioaaDoor
open Go.RowKit Go.Shelf
namespace Chn
set_option maxRecDepth 100000 in
set_option maxHeartbeats 2000000 in
theorem few13_any (ps : List Int) (n : Nat) (hn : Hid (ps.length = n)) (a : Option Addr) (cap : Nat) (w : World) (ln : n ≤ 17592186044400) (hA : AtI w a ps) :
    Calls Tryd.prog 5 #[.slice a n cap] w fun r w' => (∃ b, r = .returned (.bool b)) ∧ Below w.heap.size w w' := by
  have i1 := rHeads_any ps n hn a cap w (by omega) hA
  have i2 := fun w' (h : AtI w' a ps) => next13_any ps n hn a cap w' ln h
  have HA := hid hA
  have HM := hid (show (ps.map inc8).length = n by rw [List.length_map]; exact hn.out)
  have i3 := fun w' (a : Option Addr) (cap : Nat) (h : AtI w' a (ps.map inc8)) => rHeads_any (ps.map inc8) n HM a cap w' (by omega) h
  generalize mayB ps = B1 at *
  generalize mayB (ps.map inc8) = B2 at *
  clear hA
  go_enter Tryd.func5, Tryd.ntmps5
  go_wp2_with (go_at_call 15; fail)
  refine i1.mono ?_
  rintro r w1 ⟨rfl, b1⟩
  have HB1 := hid b1
  clear b1 i1
  go_wp2_with (go_at_call 16; fail)
  refine (i2 w1 (HA.out.below HB1.out (Nat.le_refl _))).mono ?_
  rintro r w2 ⟨v, rfl, N2⟩
  obtain ⟨a2, c2, hv, hA2⟩ := own_atZ N2.own
  rw [HM.out] at hv
  subst hv
  have HA2 := hid hA2
  have HN2 := hid (HB1.out.trans (N2.bel.mono HB1.out.size))
  clear hA2 N2 i2
  go_wp2_with (go_at_call 15; fail)
  refine (i3 w2 a2 c2 HA2.out).mono ?_
  rintro r w3 ⟨rfl, b3⟩
  have HN3 := hid (HN2.out.trans (b3.mono HN2.out.size))
  clear b3 i3 HA2 HN2 HB1
  by_cases h8 : n ≤ 8
  · have d8 : (n : Int) ≤ 8 := by omega
    go_wp2
    go_ret
    exact ⟨⟨_, rfl⟩, HN3.out⟩
  · have d8 : ¬ (n : Int) ≤ 8 := by omega
    have hl : n - 1 < ps.length := by rw [hn.out]; omega
    obtain ⟨x, rfl, _, hx⟩ := (HA.out.below HN3.out (Nat.le_refl _)) (n - 1) ps[n - 1] (List.getElem?_eq_getElem hl)
    have e1 : IntKind.i64.wrap ((n : Int) - 1) = ((n - 1 : Nat) : Int) := by rw [IntKind.wrap_i64]; omega
    have e2 : wrap64 ((n : Int) - 1) = ((n - 1 : Nat) : Int) := by unfold wrap64; omega
    have j0 : (0 : Int) ≤ ((n - 1 : Nat) : Int) := by omega
    have j1 : ((n - 1 : Nat) : Int) < (n : Int) := by omega
    have j2 : (0 : Int) ≤ (n : Int) - 1 := by omega
    have j3 : (n : Int) - 1 < (n : Int) := by omega
    have j4 : ((n : Int) - 1).toNat = n - 1 := by omega
    generalize ps[n - 1] = z at *
    clear hl
    by_cases hz : z ≤ 130
    all_goals
      cases B1 <;> cases B2
      all_goals
        go_wp2
        go_ret
        exact ⟨⟨_, rfl⟩, HN3.out⟩
end Chn
end Go.Proofs.YtappjeepajjioaaDoor

namespace Go.Proofs.YtappjeepajjioaaDoor
open Go.RowKit Go.Shelf
namespace Chn
def r6 (ρ : Nat → Nat) (s0 s1 s2 s3 s6 s7 c : Nat) : Nat → Nat := fun k => if k < s0 then ρ k else if k < s1 then 0 else if k < s2 then 3 + c else if k < s3 then 3 + (c + 1) else if k < s6 then 0 else if k < s7 then 3 + (c + 2) else 0
set_option maxRecDepth 100000 in
set_option maxHeartbeats 4000000 in
theorem nodesB_any {B0 X : Nat} {w0 w : World} {ρ : Nat → Nat} {vh vw : Value} {hv wv : List Value} {Ws : List (List (Nat × Nat))} (h : Bh B0 X w0 ρ w vh vw hv wv Ws) (hB : B0 ≤ w0.heap.size) (hc : Ws.length + 3 ≤ 1000) (ps : List Int) (a : Option Addr) (cap : Nat) (hps : ps.length ≤ 17592186044400) (A0 : AtI w a ps) :
    Calls Tryd.prog 6 #[.pointer (some ⟨X, 0, none⟩), .slice a ps.length cap] w fun r w' => r = .returned (.bool true) ∧ ∃ ρ' vh' vw' hv' wv', Bh B0 X w0 ρ' w' vh' vw' hv' wv' (Ws ++ [ndL ps] ++ [ndL ps] ++ [ndL (ps.map inc8)]) := by
  have i1 := lentInts8_any ps a cap w hps A0
  have HA := hid A0
  have HH := hid h
  obtain ⟨n, hn⟩ : ∃ n, ps.length = n := ⟨_, rfl⟩
  have HN := hid hn
  have HM := hid (show (ps.map inc8).length = n by rw [List.length_map]; exact hn)
  have j2 := fun w' (c : Nat) (g : Nat) (hR : AtI w' (some ⟨g, 0, none⟩) ps) => nodes13_any ps n HN (some ⟨g, 0, none⟩) c w' hR (by omega)
  have j4 := fun w' (hR : AtI w' a ps) => rNodes13_any ps n HN a cap w' hR (by omega)
  have j5 := fun w' (g c : Nat) (hR : RowZ w' g (ps ++ List.replicate 8 77)) (hA : AtI w' a ps) => keptInts8_any ps g c a cap w' hps hR hA
  have j6 := fun w' (hR : AtI w' a ps) => next13_any ps n HN a cap w' (by omega) hR
  have j7 := fun w' (c : Nat) (g : Nat) (hR : AtI w' (some ⟨g, 0, none⟩) (ps.map inc8)) => nodes13_any (ps.map inc8) n HM (some ⟨g, 0, none⟩) c w' hR (by omega)
  have j8 := fun w' (a' : Option Addr) (c : Nat) (hR : AtI w' a' (ps.map inc8)) => rNodes13_any (ps.map inc8) n HM a' c w' hR (by omega)
  rw [hn] at i1 j5 hps ⊢
  obtain ⟨H, hH⟩ : ∃ H, w.heap.size = H := ⟨_, rfl⟩
  rw [hH] at i1
  have b1 : (0 : Int) ≤ (n : Int) := by omega
  have b2 : (n : Int) ≤ ((n + 8 : Nat) : Int) := by omega
  clear h A0 hn
  go_enter Tryd.func6, Tryd.ntmps6
  go_wp2_with (go_at_call 17; refine i1.mono ?_; rintro r w1 ⟨rfl, hR1, b1'⟩; have R1 := hid hR1; have B1 := hid (show Below w.heap.size w w1 by rw [hH]; exact b1'); clear hR1 b1')
  refine (j2 w1 _ H (row_pre R1.out)).mono ?_
  rintro r w2 ⟨b2', v1, rfl, o1, f1⟩
  have O1 := hid o1
  have F1 := hid f1
  have B2 := hid b2'
  have hHl : H < w1.heap.size := R1.out.lt
  have R2 := hid (R1.out.below b2' hHl)
  clear o1 f1 b2'
  go_wp2_with (go_at_call 10; fail)
  refine (j2 w2 _ H (row_pre R2.out)).mono ?_
  rintro r w3 ⟨b3', v2, rfl, o2, f2⟩
  have O2 := hid o2
  have F2 := hid f2
  have B3 := hid b3'
  have R3_ := hid (R2.out.below b3' R2.out.lt)
  clear o2 f2 b3'
  have BA := hid (B1.out.trans ((B2.out.mono B1.out.size).trans (B3.out.mono (Nat.le_trans B1.out.size B2.out.size))))
  go_wp2_with (go_at_call 18; fail)
  refine (j4 w3 (HA.out.below BA.out (Nat.le_refl _))).mono ?_
  rintro r w4 ⟨b4', u1, rfl, o3, f3⟩
  have O3 := hid o3
  have F3 := hid f3
  have B4 := hid b4'
  have R4 := hid (R3_.out.below b4' R3_.out.lt)
  clear o3 f3 b4'
  have BB := hid (BA.out.trans (B4.out.mono BA.out.size))
  go_wp2_with (go_at_call 19; fail)
  refine (j5 w4 H _ R4.out (HA.out.below BB.out (Nat.le_refl _))).mono ?_
  rintro r w5 ⟨rfl, b5', e5⟩
  have B5 := hid b5'
  have R5 := hid (R4.out.below b5' R4.out.lt)
  have BC := hid (BB.out.trans (b5'.mono BB.out.size))
  have hH5 : H < w5.heap.size := R5.out.lt
  clear b5' e5 j2 j4 j5 i1
  go_wp2_with (go_at_call 16; fail)
  refine (j6 w5 (HA.out.below BC.out (Nat.le_refl _))).mono ?_
  rintro r w6 ⟨va, rfl, N6⟩
  obtain ⟨al, cl, hvl, hAl⟩ := own_atZ N6.own
  rw [List.length_map, HN.out] at hvl
  obtain ⟨wq, hcp, hrow, hbut⟩ := copy_over13 w6 H al cl ps (ps.map inc8) (List.replicate 8 77) (by rw [List.length_map]) hAl (R5.out.below N6.bel hH5) (n + 8)
  rw [List.length_map, HN.out] at hcp
  have hz6 := N6.bel.size
  have hsq : w6.heap.size ≤ wq.heap.size := hbut.size
  have hfr : ∀ k, k < w6.heap.size → k ≠ H → wq.heap[k]? = w6.heap[k]? := fun k hk hkH => hbut.block k hk hkH
  have hown7 := N6.own.kept hsq (fun g hg => hfr g (N6.own.lt g hg) (by have := N6.ge g hg; omega))
  obtain ⟨al7, cl7, hvl7, hAl7⟩ := own_atZ hown7
  rw [List.length_map, HN.out, hvl] at hvl7
  injection hvl7 with q1 q2 q3
  subst q1
  subst q3
  subst hvl
  have hHw : w.heap.size ≤ H := by omega
  have z1 := B1.out.size
  have z2 := B2.out.size
  have z3 := B3.out.size
  have z4 := B4.out.size
  have z5 := B5.out.size
  have b56 := N6.bel
  have b46 := B5.out.trans (b56.mono z5)
  have b36 := B4.out.trans (b46.mono z4)
  have b26 := B3.out.trans (b36.mono z3)
  have p1 := (O1.out.below b26).kept hsq (fun g hg => hfr g (by have := O1.out.lt g hg; omega) (by have := F1.out g hg; omega))
  have p2 := (O2.out.below b36).kept hsq (fun g hg => hfr g (by have := O2.out.lt g hg; omega) (by have := F2.out g hg; omega))
  have p3 := (O3.out.below b46).kept hsq (fun g hg => hfr g (by have := O3.out.lt g hg; omega) (by have := F3.out g hg; omega))
  have Bw : Hid (Below w.heap.size w wq) := BC.out.trans ((b56.mono BC.out.size).trans (hbut.below hHw (by omega)))
  have P1 := hid p1
  have P2 := hid p2
  have P3 := hid p3
  have HAl := hid hAl7
  have Hrow := hid hrow
  have t1 : Hid (∀ k, v1.ownBlock = some k → w1.heap.size ≤ k ∧ k < w2.heap.size) := fun k hk => ⟨F1.out k hk, O1.out.lt k hk⟩
  have t2 : Hid (∀ k, v2.ownBlock = some k → w2.heap.size ≤ k ∧ k < w3.heap.size) := fun k hk => ⟨F2.out k hk, O2.out.lt k hk⟩
  have t3 : Hid (∀ k, u1.ownBlock = some k → w3.heap.size ≤ k ∧ k < wq.heap.size) := fun k hk => ⟨F3.out k hk, by have := O3.out.lt k hk; omega⟩
  have HZ := hid (show w.heap.size ≤ w1.heap.size ∧ w1.heap.size ≤ w2.heap.size ∧ w2.heap.size ≤ w3.heap.size ∧ w3.heap.size ≤ wq.heap.size by omega)
  clear N6 hAl hAl7 hown7 hrow hbut hfr hsq hz6 z1 z2 z3 z4 z5 b56 b46 b36 b26 p1 p2 p3 O1 O2 O3 F1 F2 F3 B1 B2 B3 B4 B5 BA BB BC R1 R2 R3_ R4 R5 j6 q2
  go_wp2_with (go_at_call 10; fail)
  refine (j7 wq _ H (row_pre Hrow.out)).mono ?_
  rintro r w7 ⟨b7, v3, rfl, o7, f7⟩
  have O7 := hid o7
  have F7 := hid f7
  have B7 := hid b7
  have A7 := hid (HAl.out.below b7 (Nat.le_refl _))
  clear o7 f7 b7
  go_wp2_with (go_at_call 18; fail)
  refine (j8 w7 al cl A7.out).mono ?_
  rintro r w8 ⟨b8, u2, rfl, o8, f8⟩
  have z7 := B7.out.size
  have b78 := B7.out.trans (b8.mono z7)
  have HZo := HZ.out
  have BW8 := Bw.out.trans (b78.mono Bw.out.size)
  have H8 := HH.out.below hB BW8 (r6 ρ w.heap.size w1.heap.size w2.heap.size w3.heap.size wq.heap.size w7.heap.size Ws.length) (fun k hk => if_pos hk)
  have q1 := P1.out.below b78
  have q2 := P2.out.below b78
  have q3 := P3.out.below b78
  have q4 := O7.out.below b8
  have s1 : ∀ k, v1.ownBlock = some k → r6 ρ w.heap.size w1.heap.size w2.heap.size w3.heap.size wq.heap.size w7.heap.size Ws.length k = 3 + Ws.length := fun k hk => by
    have := t1.out k hk
    unfold r6; rw [if_neg (by omega), if_neg (by omega), if_pos (by omega)]
  have s2 : ∀ k, v2.ownBlock = some k → r6 ρ w.heap.size w1.heap.size w2.heap.size w3.heap.size wq.heap.size w7.heap.size Ws.length k = 3 + (Ws.length + 1) := fun k hk => by
    have := t2.out k hk
    unfold r6; rw [if_neg (by omega), if_neg (by omega), if_neg (by omega), if_pos (by omega)]
  have s3 : ∀ k, u1.ownBlock = some k → r6 ρ w.heap.size w1.heap.size w2.heap.size w3.heap.size wq.heap.size w7.heap.size Ws.length k = 0 := fun k hk => by
    have := t3.out k hk
    unfold r6; rw [if_neg (by omega), if_neg (by omega), if_neg (by omega), if_neg (by omega), if_pos (by omega)]
  have s4 : ∀ k, v3.ownBlock = some k → r6 ρ w.heap.size w1.heap.size w2.heap.size w3.heap.size wq.heap.size w7.heap.size Ws.length k = 3 + (Ws.length + 2) := fun k hk => by
    have := F7.out k hk; have := O7.out.lt k hk
    unfold r6; rw [if_neg (by omega), if_neg (by omega), if_neg (by omega), if_neg (by omega), if_neg (by omega), if_pos (by omega)]
  have s5 : ∀ k, u2.ownBlock = some k → r6 ρ w.heap.size w1.heap.size w2.heap.size w3.heap.size wq.heap.size w7.heap.size Ws.length k = 0 := fun k hk => by
    have := f8 k hk
    unfold r6; rw [if_neg (by omega), if_neg (by omega), if_neg (by omega), if_neg (by omega), if_neg (by omega), if_neg (by omega)]
  generalize r6 ρ w.heap.size w1.heap.size w2.heap.size w3.heap.size wq.heap.size w7.heap.size Ws.length = ρ8 at *
  have y1 := spansC_any H8 hB (by omega) (ndL ps) v1 u1 q1 s1 q3 s3
  have Q2 := hid (And.intro q2 s2)
  have Q3 := hid (And.intro q3 s3)
  have Q4 := hid (And.intro q4 s4)
  have Q5 := hid (And.intro o8 s5)
  generalize hP : ndL ps = P at *
  generalize hPD : ndL (ps.map inc8) = PD at *
  have HP := hid hP
  have HPD := hid hPD
  clear hP hPD
  generalize ndE ps = E at *
  generalize ndE (ps.map inc8) = ED at *
  clear H8 q1 q2 q3 q4 s1 s2 s3 s4 s5 o8 f8 b8 b78 BW8 O7 F7 B7 A7 P1 P2 P3 t1 t2 t3 Bw HZ HZo z7 j7 j8 Hrow HAl HH HA
  go_wp2_with (go_at_call 20; fail)
  refine y1.mono ?_
  rintro r wa ⟨rfl, ρa, vha, vwa, Ha, aa, za, ka⟩
  have q2 : OwnP wa v2 P := Q2.out.1.kept za (fun k hk => ka k (Q2.out.1.lt k hk) (by rw [Q2.out.2 k hk]; omega) (by rw [Q2.out.2 k hk]; omega) (by rw [Q2.out.2 k hk]; omega))
  have q3 : OwnP wa u1 P := Q3.out.1.kept za (fun k hk => ka k (Q3.out.1.lt k hk) (by rw [Q3.out.2 k hk]; omega) (by rw [Q3.out.2 k hk]; omega) (by rw [Q3.out.2 k hk]; omega))
  have q4 : OwnP wa v3 PD := Q4.out.1.kept za (fun k hk => ka k (Q4.out.1.lt k hk) (by rw [Q4.out.2 k hk]; omega) (by rw [Q4.out.2 k hk]; omega) (by rw [Q4.out.2 k hk]; omega))
  have q5 : OwnP wa u2 PD := Q5.out.1.kept za (fun k hk => ka k (Q5.out.1.lt k hk) (by rw [Q5.out.2 k hk]; omega) (by rw [Q5.out.2 k hk]; omega) (by rw [Q5.out.2 k hk]; omega))
  have y2 := spansC_any Ha hB (by rw [List.length_append]; simp; omega) P v2 u1 q2 (fun k hk => by rw [aa k (Q2.out.1.lt k hk), Q2.out.2 k hk, List.length_append]; rfl) q3 (fun k hk => by rw [aa k (Q3.out.1.lt k hk)]; exact Q3.out.2 k hk)
  have Q6 := hid (And.intro q4 (fun k (hk : v3.ownBlock = some k) => (aa k (Q4.out.1.lt k hk)).trans (Q4.out.2 k hk)))
  have Q7 := hid (And.intro q5 (fun k (hk : u2.ownBlock = some k) => (aa k (Q5.out.1.lt k hk)).trans (Q5.out.2 k hk)))
  clear y1 Ha aa za ka q2 q3 q4 q5 Q2 Q3 Q4 Q5
  go_wp2_with (go_at_call 20; fail)
  refine y2.mono ?_
  rintro r wb ⟨rfl, ρb, vhb, vwb, Hb, ab, zb, kb⟩
  have q4 : OwnP wb v3 PD := Q6.out.1.kept zb (fun k hk => kb k (Q6.out.1.lt k hk) (by rw [Q6.out.2 k hk]; omega) (by rw [Q6.out.2 k hk]; omega) (by rw [Q6.out.2 k hk]; omega))
  have q5 : OwnP wb u2 PD := Q7.out.1.kept zb (fun k hk => kb k (Q7.out.1.lt k hk) (by rw [Q7.out.2 k hk]; omega) (by rw [Q7.out.2 k hk]; omega) (by rw [Q7.out.2 k hk]; omega))
  have y3 := spansC_any Hb hB (by rw [List.length_append, List.length_append]; simp; omega) PD v3 u2 q4 (fun k hk => by rw [ab k (Q6.out.1.lt k hk), Q6.out.2 k hk, List.length_append, List.length_append]; rfl) q5 (fun k hk => by rw [ab k (Q7.out.1.lt k hk)]; exact Q7.out.2 k hk)
  clear y2 Hb ab zb kb q4 q5 Q6 Q7
  go_wp2_with (go_at_call 20; fail)
  refine y3.mono ?_
  rintro r we ⟨rfl, ρe, vhe, vwe, He, _, _, _⟩
  have HE := hid He
  have x1 : (E == E) = true := by simp
  have x2 : (ED == ED) = true := by simp
  clear y3
  go_wp2
  go_ret
  exact ⟨rfl, ρe, vhe, vwe, _, _, by rw [HP.out, HPD.out]; exact HE.out⟩
end Chn
end Go.Proofs.YtappjeepajjioaaDoor
