import Derived.Test.YtjcapdkibbjmiaaGreatDoorPkI10
import Derived.Test.YtjcapdkibbjmiaaGreatDoorPkO3
import Derived.Test.YtjcapdkibbjmiaaGreatDoorPkO51
import Derived.Test.YtjcapdkibbjmiaaGreatDoorPkSP28
import Derived.Test.YtjcapdkibbjmiaaGreatDoorPkR5
import Derived.Test.YtjcapdkibbjmiaaGreatDoorPkI1
import Derived.Test.YtjcapdkibbjmiaaGreatDoorPkI2
namespace Go.Proofs.YtjcapdkibbjmiaaGreatDoor
open Go.RowKit Go.Shelf
namespace Chn
def ivC (l : List Nat) : List Value := l.map fun (x : Nat) => .int .i64 (x : Int)
theorem ivC_len (l : List Nat) : (ivC l).length = l.length := by simp [ivC]
theorem infoIC : (Tryz.prog.info? 3).map (fun i => (i.zero, i.size, i.bytes)) = some (some (.int .i64 0), 1, 8) := by kernel_rfl
theorem append_intC (w : World) (v : Value) (l : List Nat) (x : Nat) (h : OwnM 1 w v l.length (ivC l)) (hl : l.length ≤ 1000000) :
    ∃ v' w', (Builtin.append_ #[23, 23] 23 #[v, .slice (some ⟨w.heap.size, 0, none⟩) 1 1]).run Tryz.prog (w.alloc (.cells #[.int .i64 (x : Int)] 3)) = .ok v' w' ∧ OwnM 1 w' v' (l ++ [x]).length (ivC (l ++ [x])) ∧ Grow w w' v v' := by
  obtain ⟨v', w', h1, h2, h3⟩ := append_oneL 23 3 (.int .i64 0) 8 Tryz.underlying23 infoIC rfl w v l.length (ivC l) [.int .i64 (x : Int)] rfl (fun u hu => by
    rw [List.mem_singleton] at hu; rw [hu]; rfl) h (by omega) (by rw [maxLen]; omega)
  refine ⟨v', w', h1, ?_, h3⟩
  have e : ivC (l ++ [x]) = ivC l ++ [.int .i64 (x : Int)] := by unfold ivC; rw [List.map_append]; rfl
  rw [e, List.length_append]
  exact h2
theorem OwnM.atIC {w : World} {a : Option Addr} {n c : Nat} {l : List Nat} (h : OwnM 1 w (.slice a n c) n (ivC l)) : AtI w a (ix l) := fun j p hp => by
  unfold ix at hp
  rw [List.getElem?_map] at hp
  cases hj : l[j]? with
  | none => rw [hj] at hp; cases hp
  | some x =>
    rw [hj] at hp
    obtain rfl : (x : Int) = p := Option.some.inj hp
    obtain ⟨g, cap, e, h1, h2⟩ := h.cell (j := j) (u := .int .i64 (x : Int)) (by unfold ivC; rw [List.getElem?_map, hj]; rfl)
    injection e with e
    refine ⟨⟨g, 0, none⟩, e, h2, ?_⟩
    rw [Addr.add_mid, Nat.zero_add]
    exact h1
structure Rsg (n at_ : Nat) (l : List Nat) : Prop where
  up : l.Pairwise (· < ·)
  lo : ∀ x ∈ l, 1 ≤ x ∧ x < at_ ∧ x ≤ n
theorem Rsg.next {n a p : Nat} {l : List Nat} (h : Rsg n a l) (h1 : 1 ≤ a) (hp : a + p ≤ n) : Rsg n (a + p + 1) (l ++ [a + p]) := by
  refine ⟨List.pairwise_append.2 ⟨h.up, List.pairwise_singleton _ _, fun x hx y hy => ?_⟩, fun x hx => ?_⟩
  · rw [List.mem_singleton.1 hy]
    have := h.lo x hx
    omega
  · rcases List.mem_append.1 hx with hx | hx
    · have := h.lo x hx
      omega
    · rw [List.mem_singleton.1 hx]
      omega
theorem Rsg.hds {n a : Nat} {l : List Nat} (h : Rsg n a l) (h1 : 1 ≤ l.length) (h2 : l.length ≤ 64) (hn : n ≤ 1099511627776) : Hds l := by
  refine ⟨h1, h2, fun i x y hx hy => ?_, fun i x hx => ?_⟩
  · have e1 := List.getElem?_eq_some_iff.1 hx
    have e2 := List.getElem?_eq_some_iff.1 hy
    have := List.pairwise_iff_getElem.1 h.up i (i + 1) e1.1 e2.1 (by omega)
    rw [e1.2, e2.2] at this
    exact this
  · have := h.lo x (List.mem_of_getElem? hx)
    omega
def RsP (w : World) (n most : Nat) (r : Ending) (w' : World) : Prop := ∃ v hs, r = .returned v ∧ OwnM 1 w' v hs.length (ivC hs) ∧ Hds hs ∧ (∀ x ∈ hs, x ≤ n) ∧ hs.length ≤ most ∧ (∀ k, v.ownBlock = some k → w.heap.size ≤ k) ∧ Below w.heap.size w w'
structure Rm (w w' : World) (v : Value) (n a : Nat) (l : List Nat) : Prop where
  own : OwnM 1 w' v l.length (ivC l)
  rs : Rsg n a l
  ge : ∀ k, v.ownBlock = some k → w.heap.size ≤ k
  bel : Below w.heap.size w w'
theorem Rm.push {w w' w2 : World} {v v' : Value} {n a p : Nat} {l : List Nat} (h : Rm w w' v n a l) (h1 : 1 ≤ a) (hp : a + p ≤ n) (ho : OwnM 1 w2 v' (l ++ [a + p]).length (ivC (l ++ [a + p]))) (g : Grow w' w2 v v') : Rm w w2 v' n (a + p + 1) (l ++ [a + p]) :=
  ⟨ho, h.rs.next h1 hp, fun k hk => by
    have := h.bel.size
    rcases Grow.alt' g k hk with e | e
    · exact h.ge k e
    · omega, h.bel.trans (keep_belowC g.keep h.bel.size h.ge)⟩
set_option maxRecDepth 100000 in
set_option maxHeartbeats 2000000 in
theorem rising13_any (L : List Int) (n most : Nat) (hn : 1 ≤ n) (hn2 : n ≤ 1099511627776) (hm : 1 ≤ most) (hm2 : most ≤ 64) (N : Nat) (hN : Hid (L.length = N)) (lN : N ≤ 9223372036854775807) (a : Option Addr) (cap : Nat) (w : World) (hA : AtI w a L) (hr : ∀ c ∈ L, -9223372036854775808 ≤ c ∧ c ≤ 9223372036854775807) :
    Calls Tryz.prog 10 #[.slice a N cap, .int .i64 (n : Int), .int .i64 (most : Int)] w (RsP w n most) := by
  have HA := hid hA
  have HR := hid hr
  clear hA hr
  go_enter Tryz.func10, Tryz.ntmps10
  go_wp2
  go_loopw [7, 8, 9, 10] (fun v p i _ w' => ∃ (k at_ : Nat) (l : List Nat), k ≤ N ∧ 1 ≤ at_ ∧ at_ ≤ n + 1 ∧ l.length ≤ most ∧ (k = 0 ∨ 1 ≤ l.length) ∧ (l.length = 0 → at_ = 1) ∧ p = .int .i64 (at_ : Int) ∧ i = .int .i64 (k : Int) ∧ Hid (Rm w w' v n at_ l)) (fun _ _ i _ _ => N - (intOf i).toNat)
  case atStart => exact ⟨0, 1, [], by omega, by omega, by omega, by simp, .inl rfl, fun _ => rfl, rfl, rfl, ⟨OwnM.nil 1 _, ⟨List.Pairwise.nil, (fun x h => by cases h)⟩, (fun k hk => by cases hk), Below.refl _ _⟩⟩
  case round =>
    obtain ⟨k, p, l, hk, hp1, hp2, hl, hk0, hl0, rfl, rfl, hM⟩ := hrel
    obtain ⟨va, vc, hva, _, _⟩ := hM.out.own.shape
    obtain ⟨q, hq⟩ : ∃ q, l.length = q := ⟨_, rfl⟩
    have HQ := hid hq
    rw [hq] at hva hl hk0 hl0
    subst hva
    have e2 : (q : Int) ≤ (most : Int) := by omega
    by_cases c1 : k < N
    · have d1 : (k : Int) < (N : Int) := by omega
      by_cases c2 : q < most
      · have d2 : (q : Int) < (most : Int) := by omega
        by_cases c3 : p ≤ n
        · have d3 : (p : Int) ≤ (n : Int) := by omega
          have w1 : IntKind.i64.wrap ((n : Int) - (p : Int)) = (n : Int) - (p : Int) := by rw [IntKind.wrap_i64]; omega
          have w2 : IntKind.i64.wrap ((n : Int) - (p : Int) + 1) = (n : Int) - (p : Int) + 1 := by rw [IntKind.wrap_i64]; omega
          have hkL : k < L.length := by rw [hN.out]; exact c1
          obtain ⟨x, rfl, _, hx⟩ := (HA.out.below hM.out.bel (Nat.le_refl _)) k L[k] (List.getElem?_eq_getElem hkL)
          have hb := HR.out L[k] (List.getElem_mem hkL)
          have j0 : (0 : Int) ≤ (k : Int) := by omega
          generalize L[k] = c at *
          have key : ∀ r : Int, 1 ≤ r → r ≤ (n : Int) - (p : Int) + 1 → ∃ P : Nat, pk c r = (P : Int) ∧ p + P ≤ n := fun r h1 h2 => by
            have a1 := pk_nonneg c r (by omega)
            have a2 := pk_lt c r (by omega)
            exact ⟨(pk c r).toNat, by omega, by omega⟩
          by_cases par : k % 2 = 0 ∧ 9 < n - p + 1
          · have m1 : (k : Int) % 2 = 0 := by omega
            have m2 : (9 : Int) < (n : Int) - (p : Int) + 1 := by omega
            have m3 : (k : Int).tmod 2 = 0 := by rw [Int.tmod_eq_emod_of_nonneg (by omega)]; omega
            obtain ⟨P, hP, hPn⟩ := key 9 (by omega) (by omega)
            have i1 := pick_any c 9 hb.1 hb.2 (by omega) (by omega) wr
            rw [hP] at i1
            have s1 : IntKind.i64.wrap ((p : Int) + (P : Int)) = (p : Int) + (P : Int) := by rw [IntKind.wrap_i64]; omega
            have s2 : IntKind.i64.wrap ((p : Int) + (P : Int) + 1) = (p : Int) + (P : Int) + 1 := by rw [IntKind.wrap_i64]; omega
            obtain ⟨v', w3, hap, O3, G3⟩ := append_intC wr (.slice va q vc) l (p + P) hM.out.own (by rw [HQ.out]; omega)
            have M3 := hid (hM.out.push hp1 hPn O3 G3)
            have e5 : ((p + P : Nat) : Int) = (p : Int) + (P : Int) := by omega
            rw [e5] at hap
            clear O3 G3 key hP hb
            go_wp2_with (first
              | (go_at_call 6; refine i1.mono ?_; rintro r w2' ⟨rfl, h2⟩; have h2 := h2.symm; subst h2)
              | (at_builtin; go_must (refine Lib.wpList_append_run _ rfl _ _ 23 23 rfl _ _ rfl rfl _ _ hap ?_)))
            exact ⟨⟨k + 1, p + P + 1, l ++ [p + P], by omega, by omega, by omega, by rw [List.length_append, HQ.out, List.length_singleton]; omega, .inr (by simp), (fun e => by simp at e), by go_num, by go_num, M3⟩, by simp [intOf]; omega⟩
          · obtain ⟨P, hP, hPn⟩ := key ((n : Int) - (p : Int) + 1) (by omega) (by omega)
            have i1 := pick_any c ((n : Int) - (p : Int) + 1) hb.1 hb.2 (by omega) (by omega) wr
            rw [hP] at i1
            by_cases m0 : k % 2 = 0
            · have m1 : (k : Int) % 2 = 0 := by omega
              have m2 : ¬ (9 : Int) < (n : Int) - (p : Int) + 1 := by omega
              have m3 : (k : Int).tmod 2 = 0 := by rw [Int.tmod_eq_emod_of_nonneg (by omega)]; omega
              have s1 : IntKind.i64.wrap ((p : Int) + (P : Int)) = (p : Int) + (P : Int) := by rw [IntKind.wrap_i64]; omega
              have s2 : IntKind.i64.wrap ((p : Int) + (P : Int) + 1) = (p : Int) + (P : Int) + 1 := by rw [IntKind.wrap_i64]; omega
              obtain ⟨v', w3, hap, O3, G3⟩ := append_intC wr (.slice va q vc) l (p + P) hM.out.own (by rw [HQ.out]; omega)
              have M3 := hid (hM.out.push hp1 hPn O3 G3)
              have e5 : ((p + P : Nat) : Int) = (p : Int) + (P : Int) := by omega
              rw [e5] at hap
              clear O3 G3 key hP hb
              go_wp2_with (first
                | (go_at_call 6; refine i1.mono ?_; rintro r w2' ⟨rfl, h2⟩; have h2 := h2.symm; subst h2)
                | (at_builtin; go_must (refine Lib.wpList_append_run _ rfl _ _ 23 23 rfl _ _ rfl rfl _ _ hap ?_)))
              exact ⟨⟨k + 1, p + P + 1, l ++ [p + P], by omega, by omega, by omega, by rw [List.length_append, HQ.out, List.length_singleton]; omega, .inr (by simp), (fun e => by simp at e), by go_num, by go_num, M3⟩, by simp [intOf]; omega⟩
            · have m1 : ¬ (k : Int) % 2 = 0 := by omega
              have m3 : ¬ (k : Int).tmod 2 = 0 := by rw [Int.tmod_eq_emod_of_nonneg (by omega)]; omega
              have s1 : IntKind.i64.wrap ((p : Int) + (P : Int)) = (p : Int) + (P : Int) := by rw [IntKind.wrap_i64]; omega
              have s2 : IntKind.i64.wrap ((p : Int) + (P : Int) + 1) = (p : Int) + (P : Int) + 1 := by rw [IntKind.wrap_i64]; omega
              obtain ⟨v', w3, hap, O3, G3⟩ := append_intC wr (.slice va q vc) l (p + P) hM.out.own (by rw [HQ.out]; omega)
              have M3 := hid (hM.out.push hp1 hPn O3 G3)
              have e5 : ((p + P : Nat) : Int) = (p : Int) + (P : Int) := by omega
              rw [e5] at hap
              clear O3 G3 key hP hb
              go_wp2_with (first
                | (go_at_call 6; refine i1.mono ?_; rintro r w2' ⟨rfl, h2⟩; have h2 := h2.symm; subst h2)
                | (at_builtin; go_must (refine Lib.wpList_append_run _ rfl _ _ 23 23 rfl _ _ rfl rfl _ _ hap ?_)))
              exact ⟨⟨k + 1, p + P + 1, l ++ [p + P], by omega, by omega, by omega, by rw [List.length_append, HQ.out, List.length_singleton]; omega, .inr (by simp), (fun e => by simp at e), by go_num, by go_num, M3⟩, by simp [intOf]; omega⟩
        · have d3 : ¬ (p : Int) ≤ (n : Int) := by omega
          have d4 : ¬ (q : Int) = 0 := by omega
          clear hq
          go_wp2
          go_ret
          exact ⟨_, l, rfl, hM.out.own, hM.out.rs.hds (by rw [HQ.out]; omega) (by rw [HQ.out]; omega) hn2, fun x hx => (hM.out.rs.lo x hx).2.2, by rw [HQ.out]; omega, hM.out.ge, hM.out.bel⟩
      · have d2 : ¬ (q : Int) < (most : Int) := by omega
        have d4 : ¬ (q : Int) = 0 := by omega
        clear hq
        go_wp2
        go_ret
        exact ⟨_, l, rfl, hM.out.own, hM.out.rs.hds (by rw [HQ.out]; omega) (by rw [HQ.out]; omega) hn2, fun x hx => (hM.out.rs.lo x hx).2.2, by rw [HQ.out]; omega, hM.out.ge, hM.out.bel⟩
    · have d1 : ¬ (k : Int) < (N : Int) := by omega
      by_cases c4 : q = 0
      · have d4 : (q : Int) = 0 := by omega
        obtain rfl : l = [] := List.eq_nil_of_length_eq_zero (by rw [HQ.out]; exact c4)
        obtain rfl : p = 1 := hl0 c4
        subst c4
        obtain ⟨v', w3, hap, O3, G3⟩ := append_intC wr (.slice va 0 vc) [] (1 + (n - 1)) hM.out.own (by simp)
        have M3 := hid (hM.out.push (by omega) (by omega) O3 G3)
        have e5 : ((1 + (n - 1) : Nat) : Int) = (n : Int) := by omega
        rw [e5] at hap
        clear O3 G3 hq
        go_wp2_with (at_builtin; go_must (refine Lib.wpList_append_run _ rfl _ _ 23 23 rfl _ _ rfl rfl _ _ hap ?_))
        go_ret
        exact ⟨_, _, rfl, M3.out.own, M3.out.rs.hds (by simp) (by simp) hn2, fun x hx => (M3.out.rs.lo x hx).2.2, by simp; omega, M3.out.ge, M3.out.bel⟩
      · have d4 : ¬ (q : Int) = 0 := by omega
        clear hq
        go_wp2
        go_ret
        exact ⟨_, l, rfl, hM.out.own, hM.out.rs.hds (by rw [HQ.out]; omega) (by rw [HQ.out]; omega) hn2, fun x hx => (hM.out.rs.lo x hx).2.2, by rw [HQ.out]; omega, hM.out.ge, hM.out.bel⟩
end Chn
end Go.Proofs.YtjcapdkibbjmiaaGreatDoor

namespace Go.Proofs.YtjcapdkibbjmiaaGreatDoor
open Go.RowKit Go.Shelf
namespace Chn
namespace Gb
def AtV (w : World) (a : Option Addr) (l : List Value) : Prop := ∀ j u, l[j]? = some u → ∃ g, a = some ⟨g, 0, none⟩ ∧ g < w.heap.size ∧ w.cell? ⟨g, j, none⟩ = some u
theorem AtV.kept {w w' : World} {a : Option Addr} {l : List Value} (h : AtV w a l) (hs : w.heap.size ≤ w'.heap.size) (hb : ∀ x : Addr, a = some x → x.block < w.heap.size → w'.heap[x.block]? = w.heap[x.block]?) : AtV w' a l := fun j u hu => by
  obtain ⟨g, e, h1, h2⟩ := h j u hu
  have e2 := hb _ e h1
  exact ⟨g, e, by omega, (World.cell?_of_block (a := ⟨g, j, none⟩) e2).trans h2⟩
theorem AtV.own {w : World} {v : Value} {n : Nat} {l : List Value} (h : OwnM 1 w v n l) : ∃ a c, v = .slice a n c ∧ AtV w a l := by
  obtain ⟨a, c, e, _, _⟩ := h.shape
  refine ⟨a, c, e, fun j u hu => ?_⟩
  obtain ⟨g, c', e1, h1, h2⟩ := h.cell hu
  rw [e] at e1
  injection e1 with e1
  exact ⟨g, e1, h2, h1⟩
def MkV (w : World) (v : Value) (x : Value) : Prop := ∃ a n c, v = .slice a n c ∧ n ≤ 9223372036854775807 ∧ ∀ j, j < n → ∃ g, a = some ⟨g, 0, none⟩ ∧ g < w.heap.size ∧ w.cell? ⟨g, j, none⟩ = some x
theorem MkV.kept {w w' : World} {v : Value} {m : Value} (h : MkV w v m) (hs : w.heap.size ≤ w'.heap.size) (hb : ∀ k, v.ownBlock = some k → k < w.heap.size → w'.heap[k]? = w.heap[k]?) : MkV w' v m := by
  obtain ⟨a, n, c, rfl, h1, h2⟩ := h
  refine ⟨a, n, c, rfl, h1, fun j hj => ?_⟩
  obtain ⟨g, rfl, h3, h4⟩ := h2 j hj
  exact ⟨g, rfl, by omega, (World.cell?_of_block (a := ⟨g, j, none⟩) (hb g rfl h3)).trans h4⟩
theorem rep_at (x : Value) (n j : Nat) (h : j < n) : (List.replicate n x)[j]? = some x := by simp [h]
theorem mkV {w : World} {v : Value} {n : Nat} {m : Value} (h : OwnM 1 w v n (List.replicate n m)) : MkV w v m := by
  obtain ⟨a, c, e, h1, h2⟩ := h.shape
  refine ⟨a, n, c, e, by omega, fun j hj => ?_⟩
  obtain ⟨g, c', e1, h3, h4⟩ := h.cell (rep_at m n j hj)
  rw [e] at e1
  injection e1 with e1
  exact ⟨g, e1, h4, h3⟩
theorem rep_set {cs : List Value} {k n : Nat} (hl : cs.length = n) (hk : k < n) (m : Value) : (List.replicate k m ++ cs.drop k).set k m = List.replicate (k + 1) m ++ cs.drop (k + 1) := by
  rw [List.set_append_right _ _ (by simp), List.length_replicate, Nat.sub_self, List.drop_eq_getElem_cons (show k < cs.length by omega), List.replicate_succ', List.append_assoc]
  rfl
end Gb
end Chn
end Go.Proofs.YtjcapdkibbjmiaaGreatDoor

namespace Go.Proofs.YtjcapdkibbjmiaaGreatDoor
open Go.RowKit Go.Shelf
set_option maxRecDepth 100000 in
set_option maxHeartbeats 4000000 in
theorem spans_yes (l : List (Int × Int)) (a1 a2 : Option Addr) (c1 c2 : Nat) (w : World) (hl : l.length ≤ 9223372036854775800) (h1 : AtP w a1 l) (h2 : AtP w a2 l) :
    Calls Tryz.prog 22 #[.slice a1 l.length c1, .slice a2 l.length c2] w fun r w' => r = .returned (.bool true) ∧ Below w.heap.size w w' := by
  obtain ⟨n, hn⟩ : ∃ n, Hid (l.length = n) := ⟨_, rfl⟩
  rw [hn.out] at hl ⊢
  have H1 := hid h1
  have H2 := hid h2
  clear h1 h2
  go_enter Tryz.func22, Tryz.ntmps22
  go_wp2
  go_loopw [5] (fun i wr => ∃ k : Nat, i = .int .i64 (k : Int) ∧ k ≤ n ∧ Hid (Below w.heap.size w wr)) (fun i _ => n - (intOf i).toNat)
  case atStart => exact ⟨0, rfl, Nat.zero_le _, Below.refl _ _⟩
  case round =>
    obtain ⟨k, rfl, hk, hB⟩ := hrel
    by_cases hkn : k < n
    · have b0 : (k : Int) < (n : Int) := by omega
      have b1 : (0 : Int) ≤ (k : Int) := by omega
      obtain ⟨x, y, hq⟩ : ∃ x y, l[k]? = some (x, y) := ⟨_, _, List.getElem?_eq_getElem (by have := hn.out; omega)⟩
      obtain ⟨g1, rfl, _, p0, p1⟩ := (H1.out.below hB.out (Nat.le_refl _)) k (x, y) hq
      obtain ⟨g2, rfl, _, q0, q1⟩ := (H2.out.below hB.out (Nat.le_refl _)) k (x, y) hq
      have p0 : wr.cell? ⟨g1, k * 2, none⟩ = some (.int .i64 x) := p0
      have p1 : wr.cell? ⟨g1, k * 2 + 1, none⟩ = some (.int .i64 y) := p1
      have q0 : wr.cell? ⟨g2, k * 2, none⟩ = some (.int .i64 x) := q0
      have q1 : wr.cell? ⟨g2, k * 2 + 1, none⟩ = some (.int .i64 y) := q1
      clear H1 H2 hq
      go_wp2
      go_quiet (fail)
      go_wp2
      exact ⟨⟨k + 1, by go_num, by omega, by first | exact hB | exact hid hB.out.drew | exact hid (below_drewN hB.out _)⟩, by simp [intOf]; omega⟩
    · obtain rfl : k = n := by omega
      have b0 : ¬ (k : Int) < (k : Int) := by omega
      go_wp2
      go_ret
      exact ⟨rfl, hB.out⟩
theorem AtP.lit (w : World) (l : List (Int × Int)) (t : TypeId) : AtP (w.alloc (.cells (prI l).toArray t)) (some ⟨w.heap.size, 0, none⟩) l := fun j q hq => by
  have h := prI_get hq
  refine ⟨w.heap.size, rfl, by rw [size_alloc]; omega, ?_, ?_⟩
  · rw [cell_of_row _ _ _ _ _ _ (heap_alloc_new w _)]; simpa using h.1
  · rw [cell_of_row _ _ _ _ _ _ (heap_alloc_new w _)]; simpa using h.2
theorem AtI.lit (w : World) (l : List Int) (t : TypeId) : AtI (w.alloc (.cells (l.map (Value.int .i64)).toArray t)) (some ⟨w.heap.size, 0, none⟩) l := fun j q hq => by
  refine ⟨⟨w.heap.size, 0, none⟩, rfl, by show w.heap.size < _; rw [size_alloc]; omega, ?_⟩
  rw [Addr.add_mid, cell_of_row _ _ _ _ _ _ (heap_alloc_new w _), Nat.zero_add]
  simp [hq]
set_option maxRecDepth 100000 in
theorem hash8_any (s : ByteArray) (hs : s.size ≤ 140737488355000) (w : World) : Calls Tryz.prog 11 #[.string s] w fun r w' => r = .returned (sv (Sha.sha s.data.toList)) ∧ Below w.heap.size w w' := by
  have i1 := fun w' => rsum_any s (by omega) w'
  obtain ⟨D, hD⟩ : ∃ D : ByteArray, Hid (sv (Sha.sha s.data.toList) = .string D) := ⟨_, rfl⟩
  rw [hD.out] at i1 ⊢
  go_enter Tryz.func11, Tryz.ntmps11
  go_wp2_with (go_at_call 33; refine (i1 _).mono ?_; rintro e w' ⟨rfl, hw⟩)
  go_ret
  exact ⟨rfl, hw⟩
end Go.Proofs.YtjcapdkibbjmiaaGreatDoor

namespace Go.Proofs.YtjcapdkibbjmiaaGreatDoor
open Go.RowKit Go.Shelf
namespace Tree
end Tree
set_option maxRecDepth 100000 in
set_option maxHeartbeats 2000000 in
theorem rMiddle_at (b e m : Nat) (h2 : 2 ≤ e - b) (he : e ≤ 1099511627776) (hm : Hid (m = b + Tree.sp (e - b))) (w : World) :
    Calls Tryz.prog 90 #[sg b e] w fun r w' => r = .returned (.int .i64 (m : Int)) ∧ Below w.heap.size w w' := by
  obtain ⟨n, hn⟩ : ∃ n, Hid (e - b = n) := ⟨_, rfl⟩
  have S0 := SpI.new w b e
  have B0 := (Below.refl _ w).alloc (Nat.le_refl _) (.cells #[.int .i64 (b : Int), .int .i64 (e : Int)] 60)
  have c0 := S0.c0
  have c1 := S0.c1
  have hn2 : 2 ≤ n := by rw [← hn.out]; exact h2
  have hn3 : n ≤ 1099511627776 := by have := hn.out; omega
  have q0 : (e : Int) - (b : Int) = (n : Int) := by have := hn.out; omega
  have q1 : IntKind.i64.wrap ((e : Int) - (b : Int)) = (n : Int) := by rw [IntKind.wrap_i64]; omega
  rw [hn.out] at hm
  go_enter Tryz.func90, Tryz.ntmps90
  go_wp2
  clear q0 q1
  go_loopw [4] (fun k w' => ∃ a x : Nat, Hid (2 ^ a = x) ∧ k = .int .i64 (x : Int) ∧ x < n ∧ 0 < x ∧ w' = w.alloc (.cells #[.int .i64 (b : Int), .int .i64 (e : Int)] 60)) (fun k _ => n - (intOf k).toNat)
  case atStart => exact ⟨0, 1, rfl, rfl, by omega, by omega, rfl⟩
  case round =>
    obtain ⟨a, x, hx, rfl, hlt, hpos, rfl⟩ := hrel
    by_cases hk : 2 * (x : Int) < n
    · go_wp2
      exact ⟨⟨a + 1, 2 * x, by rw [Hid, Nat.pow_succ, hx.out, Nat.mul_comm], by go_num, by omega, by omega, trivial⟩, by simp [intOf]; omega⟩
    · have em := hid (show Tree.sp n = x by rw [Tree.sp_one hn2 a (by rw [hx.out]; omega) (by rw [hx.out]; omega), hx.out])
      have q2 : IntKind.i64.wrap ((b : Int) + (x : Int)) = (m : Int) := by rw [hm.out, em.out, IntKind.wrap_i64]; have := hn.out; omega
      go_wp2
      go_ret
      exact ⟨rfl, B0⟩
end Go.Proofs.YtjcapdkibbjmiaaGreatDoor

/- THE PLAIN MATHEMATICS OF LAYER 8: spans that lie apart, walked from the left; nothing of the program. -/
namespace Go.Proofs.YtjcapdkibbjmiaaGreatDoor
namespace Tree
end Tree
end Go.Proofs.YtjcapdkibbjmiaaGreatDoor

namespace Go.Proofs.YtjcapdkibbjmiaaGreatDoor
open Go.RowKit Go.Shelf
abbrev pm (L : List (Nat × Nat)) : List (Int × Int) := L.map fun s => ((s.1 : Int), (s.2 : Int))
end Go.Proofs.YtjcapdkibbjmiaaGreatDoor

namespace Go.Proofs.YtjcapdkibbjmiaaGreatDoor
open Go.RowKit Go.Shelf
def Mk (w : World) (v : Value) (m : Int) : Prop := ∃ a n c, v = .slice a n c ∧ n ≤ 9223372036854775807 ∧ ∀ j, j < n → ∃ g, a = some ⟨g, 0, none⟩ ∧ g < w.heap.size ∧ w.cell? ⟨g, j * 2, none⟩ = some (.int .i64 m) ∧ w.cell? ⟨g, j * 2 + 1, none⟩ = some (.int .i64 0)
end Go.Proofs.YtjcapdkibbjmiaaGreatDoor

namespace Go.Proofs.YtjcapdkibbjmiaaGreatDoor
open Go.RowKit Go.Shelf
theorem Wr.bel {ρ : Nat → Nat} {r B0 : Nat} {w0 w w' : World} (h : Wr ρ r w w') (hb : Below B0 w0 w) (hB : B0 ≤ w0.heap.size) (hl : ∀ k, k < B0 → ρ k = 0) (hr : r ≠ 0) : Below B0 w0 w' :=
  hb.trans ⟨h.os, h.tape, h.output, h.size, fun k hk => h.block k (by have := hb.size; omega) (by rw [hl k hk]; exact fun e => hr e.symm)⟩
end Go.Proofs.YtjcapdkibbjmiaaGreatDoor

namespace Go.Proofs.YtjcapdkibbjmiaaGreatDoor
open Go.RowKit Go.Shelf
namespace Chn
namespace Gb
structure Cb (mk : Nat → Value) (B0 X gh gw : Nat) (F : Value → Array Value) (hv wv : List Value) (Ws : List (List Value)) (w0 : World) (ρ : Nat → Nat) (w : World) (p : Nat) (vl : Value) (ls : List Value) : Prop where
  bel : Below B0 w0 w
  low : ∀ k, k < B0 → ρ k = 0
  fr0 : ∀ k, k < w0.heap.size → ρ k = 0 → w.heap[k]? = w0.heap[k]?
  row : w.heap[X]? = some (.cells (F vl) 35 (0, 0))
  rX : ρ X = 1
  hr : w.rangeAt gh 0 hv
  rh : ρ gh = 0
  lh : gh < w.heap.size
  wr : w.rangeAt gw 0 wv
  rw_ : ρ gw = 0
  lw : gw < w.heap.size
  want : ∀ (j : Nat) (W : List Value), Ws[j]? = some W → ∃ a c, wv[j]? = some (.slice a W.length c) ∧ AtV w a W ∧ ∀ x : Addr, a = some x → x.block < w.heap.size ∧ ρ x.block = 0
  own : ∀ (j : Nat) (W : List Value), p ≤ j → Ws[j]? = some W → ∃ v, hv[j]? = some v ∧ OwnM 1 w v W.length W ∧ ∀ k, v.ownBlock = some k → ρ k = 3 + j
  ol : OwnM 1 w vl ls.length ls
  rl : ∀ k, vl.ownBlock = some k → ρ k = 2
  mrk : ∀ (t : Nat) (v : Value), ls[t]? = some v → MkV w v (mk (t / 40)) ∧ ∀ k, v.ownBlock = some k → k < w.heap.size ∧ ρ k = 3 + t / 40
theorem Cb.step {mk : Nat → Value} {B0 X gh gw : Nat} {F : Value → Array Value} {hv wv : List Value} {Ws : List (List Value)} {w0 w w' : World} {ρ : Nat → Nat} {p p' r : Nat} {vl : Value} {ls : List Value} (h : Cb mk B0 X gh gw F hv wv Ws w0 ρ w p vl ls) (hB : B0 ≤ w0.heap.size) (hw : Wr ρ r w w') (h3 : 3 ≤ r) (hp : p ≤ p') (ρ' : Nat → Nat) (hρ : ∀ k, k < w.heap.size → ρ' k = ρ k)
    (hj : ∀ (j : Nat) (v : Value) (W : List Value), p' ≤ j → r = 3 + j → OwnM 1 w v W.length W → OwnM 1 w' v W.length W)
    (hm : ∀ (t : Nat) (v : Value), ls[t]? = some v → r = 3 + t / 40 → MkV w v (mk (t / 40)) → MkV w' v (mk (t / 40))) : Cb mk B0 X gh gw F hv wv Ws w0 ρ' w' p' vl ls where
  bel := hw.bel h.bel hB h.low (by omega)
  low := fun k hk => by rw [hρ k (by have := h.bel.size; omega)]; exact h.low k hk
  fr0 := fun k hk e => by
    have hs := h.bel.size
    rw [hρ k (by omega)] at e
    exact (hw.block k (by omega) (by omega)).trans (h.fr0 k hk e)
  row := (hw.block X (lt_of_heap h.row) (by rw [h.rX]; omega)).trans h.row
  rX := by rw [hρ X (lt_of_heap h.row)]; exact h.rX
  hr := rangeAt_heap h.hr (hw.block gh h.lh (by rw [h.rh]; omega))
  rh := by rw [hρ _ h.lh]; exact h.rh
  lh := Nat.lt_of_lt_of_le h.lh hw.size
  wr := rangeAt_heap h.wr (hw.block gw h.lw (by rw [h.rw_]; omega))
  rw_ := by rw [hρ _ h.lw]; exact h.rw_
  lw := Nat.lt_of_lt_of_le h.lw hw.size
  want := fun j W e => by
    obtain ⟨a, c, e1, e2, e3⟩ := h.want j W e
    exact ⟨a, c, e1, e2.kept hw.size (fun x hx hlt => hw.block _ hlt (by rw [(e3 x hx).2]; omega)), fun x hx => ⟨Nat.lt_of_lt_of_le (e3 x hx).1 hw.size, by rw [hρ _ (e3 x hx).1]; exact (e3 x hx).2⟩⟩
  own := fun j W hpj e => by
    obtain ⟨v, e1, e2, e3⟩ := h.own j W (by omega) e
    refine ⟨v, e1, ?_, fun k hk => by rw [hρ _ (e2.lt k hk)]; exact e3 k hk⟩
    by_cases hr : r = 3 + j
    · exact hj j v W hpj hr e2
    · exact e2.kept hw.size (fun g hg => hw.block g (e2.lt g hg) (by rw [e3 g hg]; exact fun e => hr e.symm))
  ol := h.ol.kept hw.size (fun g hg => hw.block g (h.ol.lt g hg) (by rw [h.rl g hg]; omega))
  rl := fun k hk => by rw [hρ _ (h.ol.lt k hk)]; exact h.rl k hk
  mrk := fun t v e => by
    obtain ⟨e1, e2⟩ := h.mrk t v e
    refine ⟨?_, fun k hk => ⟨Nat.lt_of_lt_of_le (e2 k hk).1 hw.size, by rw [hρ _ (e2 k hk).1]; exact (e2 k hk).2⟩⟩
    by_cases hr : r = 3 + t / 40
    · exact hm t v e hr e1
    · exact e1.kept hw.size (fun k hk hlt => hw.block k hlt (by rw [(e2 k hk).2]; exact fun e => hr e.symm))
theorem Cb.below {mk : Nat → Value} {B0 X gh gw : Nat} {F : Value → Array Value} {hv wv : List Value} {Ws : List (List Value)} {w0 w w' : World} {ρ : Nat → Nat} {p : Nat} {vl : Value} {ls : List Value} (h : Cb mk B0 X gh gw F hv wv Ws w0 ρ w p vl ls) (hB : B0 ≤ w0.heap.size) (hb : Below w.heap.size w w') : Cb mk B0 X gh gw F hv wv Ws w0 (rx ρ w 0) w' p vl ls :=
  h.step hB (Wr.below (r := 3) hb) (Nat.le_refl _) (Nat.le_refl _) _ (fun _ hk => rx_old hk) (fun _ _ _ _ _ e => e.below hb) (fun _ _ _ _ e => e.kept hb.size (fun k _ hlt => hb.block k hlt))
theorem Cb.push {mk : Nat → Value} {B0 X gh gw : Nat} {F : Value → Array Value} {hv wv : List Value} {Ws : List (List Value)} {w0 w w' : World} {ρ : Nat → Nat} {p ix : Nat} {vl vl' : Value} {ls : List Value} (h : Cb mk B0 X gh gw F hv wv Ws w0 ρ w p vl ls) (hB : B0 ≤ w0.heap.size) (hF : ∀ v v', (F v).setIfInBounds ix v' = F v')
    (hg : Grow w w' vl vl') {u : Value} (ho : OwnM 1 w' vl' (ls.length + 1) (ls ++ [u])) (hu : MkV w u (mk (ls.length / 40))) (hur : ∀ k, u.ownBlock = some k → k < w.heap.size ∧ ρ k = 3 + ls.length / 40) :
    Cb mk B0 X gh gw F hv wv Ws w0 (rx ρ w 2) (w'.setCell ⟨X, ix, none⟩ vl') p vl' (ls ++ [u]) := by
  have hw : Wr ρ 2 w w' := Wr.grow hg h.rl
  have hXl := lt_of_heap h.row
  have hrX : rx ρ w 2 X = 1 := by rw [rx_old hXl]; exact h.rX
  have row1 := (hw.block X hXl (by rw [h.rX]; omega)).trans h.row
  have e0 := setCell_eq_setRow w' X ix (F vl) 35 (0, 0) vl' row1
  have hset : ∀ k, k ≠ X → (w'.setCell ⟨X, ix, none⟩ vl').heap[k]? = w'.heap[k]? := fun k hk => heap_setCell_other w' ⟨X, ix, none⟩ k vl' hk
  have hsz : (w'.setCell ⟨X, ix, none⟩ vl').heap.size = w'.heap.size := by simp [World.setCell]
  have both : ∀ k, k < w.heap.size → ρ k ≠ 2 → ρ k ≠ 1 → (w'.setCell ⟨X, ix, none⟩ vl').heap[k]? = w.heap[k]? := fun k hk h2 h1 => (hset k (fun e => h1 (by rw [e]; exact h.rX))).trans (hw.block k hk h2)
  have hs2 : w.heap.size ≤ (w'.setCell ⟨X, ix, none⟩ vl').heap.size := by rw [hsz]; exact hw.size
  constructor
  case bel => exact (hw.bel h.bel hB h.low (by omega)).setCell (p := ⟨X, ix, none⟩) (by
      show B0 ≤ X
      rcases Nat.lt_or_ge X B0 with e | e
      · have := h.low X e; rw [h.rX] at this; omega
      · exact e) _
  case low => exact fun k hk => by rw [rx_old (by have := h.bel.size; omega)]; exact h.low k hk
  case fr0 =>
    intro k hk e
    have hs := h.bel.size
    rw [rx_old (by omega)] at e
    exact (both k (by omega) (by omega) (by omega)).trans (h.fr0 k hk e)
  case row =>
    rw [e0, setRow_heap _ _ _ _ _ _ row1]
    exact congrArg (fun A => some (Obj.cells A 35 (0, 0))) (hF _ _)
  case rX => exact hrX
  case hr => exact rangeAt_heap h.hr (both gh h.lh (by rw [h.rh]; omega) (by rw [h.rh]; omega))
  case rh => rw [rx_old h.lh]; exact h.rh
  case lh => exact Nat.lt_of_lt_of_le h.lh hs2
  case wr => exact rangeAt_heap h.wr (both gw h.lw (by rw [h.rw_]; omega) (by rw [h.rw_]; omega))
  case rw_ => rw [rx_old h.lw]; exact h.rw_
  case lw => exact Nat.lt_of_lt_of_le h.lw hs2
  case want =>
    intro j W e
    obtain ⟨a, c, e1, e2, e3⟩ := h.want j W e
    exact ⟨a, c, e1, e2.kept hs2 (fun x hx hlt => both _ hlt (by rw [(e3 x hx).2]; omega) (by rw [(e3 x hx).2]; omega)), fun x hx => ⟨Nat.lt_of_lt_of_le (e3 x hx).1 hs2, by rw [rx_old (e3 x hx).1]; exact (e3 x hx).2⟩⟩
  case own =>
    intro j W hpj e
    obtain ⟨v, e1, e2, e3⟩ := h.own j W hpj e
    exact ⟨v, e1, e2.kept hs2 (fun g hg => both g (e2.lt g hg) (by rw [e3 g hg]; omega) (by rw [e3 g hg]; omega)), fun k hk => by rw [rx_old (e2.lt k hk)]; exact e3 k hk⟩
  case ol =>
    rw [List.length_append]
    refine OwnM.kept ho (Nat.le_of_eq hsz.symm) (fun g hg' => hset g (fun e => ?_))
    have := Wr.own hg h.rl h.ol.lt g hg'
    rw [e, hrX] at this
    omega
  case rl => exact Wr.own hg h.rl h.ol.lt
  case mrk =>
    intro t v e
    rw [List.getElem?_append] at e
    split at e
    · obtain ⟨e1, e2⟩ := h.mrk t v e
      exact ⟨e1.kept hs2 (fun k hk hlt => both k hlt (by rw [(e2 k hk).2]; omega) (by rw [(e2 k hk).2]; omega)), fun k hk => ⟨Nat.lt_of_lt_of_le (e2 k hk).1 hs2, by rw [rx_old (e2 k hk).1]; exact (e2 k hk).2⟩⟩
    · next hlt =>
      obtain rfl : t = ls.length := by
        have := (List.getElem?_eq_some_iff.1 e).1
        simp at this
        omega
      rw [Nat.sub_self] at e
      obtain rfl : u = v := Option.some.inj e
      exact ⟨hu.kept hs2 (fun k hk hlt => both k hlt (by rw [(hur k hk).2]; omega) (by rw [(hur k hk).2]; omega)), fun k hk => ⟨Nat.lt_of_lt_of_le (hur k hk).1 hs2, by rw [rx_old (hur k hk).1]; exact (hur k hk).2⟩⟩
end Gb
end Chn
end Go.Proofs.YtjcapdkibbjmiaaGreatDoor
