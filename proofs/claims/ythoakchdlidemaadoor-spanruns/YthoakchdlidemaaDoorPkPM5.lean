import Derived.Test.YthoakchdlidemaaDoorPkPL1
import Derived.Test.YthoakchdlidemaaDoorPkO2
import Derived.Deep.CutRange
import Derived.Deep.DeepCutAuto
/- Layer 14: what SpanRuns' calls answer -/
namespace Go.Proofs.YthoakchdlidemaaDoor
open Go.RowKit Go.Shelf
namespace Spn
/-- leaves of raw numbers, each by a rule -/
def lfl (f : Nat → Int) (j : Nat) : List (List UInt8) := (List.range j).map fun i => lf (f i)
theorem lfl_len (f : Nat → Int) (j : Nat) : (lfl f j).length = j := by simp [lfl]
theorem lfl_snoc (f : Nat → Int) (j : Nat) : lfl f (j + 1) = lfl f j ++ [lf (f j)] := by simp [lfl, List.range_succ]
theorem lfl_hs (f : Nat → Int) (j : Nat) : Tree.Hs (lfl f j) := fun x hx => by
  unfold lfl at hx
  obtain ⟨i, _, rfl⟩ := List.mem_map.1 hx
  exact lf_length _
theorem lfl_h8 (f : Nat → Int) (j : Nat) : hsB8 (lfl f j) = true := hsB_is (lfl_hs f j)
theorem hs_of {l : List (List UInt8)} (h : hsB8 l = true) : Tree.Hs l := fun x hx => by
  have := List.all_eq_true.1 h x hx
  simpa using this
theorem pushH_hs : ∀ (l : List ((Nat × Nat) × List UInt8)) (b n : Nat) (x : List UInt8), (∀ q ∈ l, q.2.length = 32) → x.length = 32 → ∀ q ∈ Cut.pushH l b n x, q.2.length = 32
  | [], b, n, x, _, hx, q, hq => by
    rw [Cut.pushH, List.mem_singleton] at hq
    subst hq
    exact hx
  | ((p, m), y) :: l, b, n, x, h, hx, q, hq => by
    rw [Cut.pushH] at hq
    split at hq
    · exact pushH_hs l p (2 * n) (Tree.nd y x) (fun q hq => h q (List.mem_cons_of_mem _ hq)) (Tree.nd_length (h ((p, m), y) List.mem_cons_self) hx) q hq
    · rcases List.mem_cons.1 hq with rfl | hq
      · exact hx
      · exact h q hq
theorem pushAllH_hs : ∀ (l st : List ((Nat × Nat) × List UInt8)), (∀ q ∈ st, q.2.length = 32) → (∀ q ∈ l, q.2.length = 32) → ∀ q ∈ Cut.pushAllH st l, q.2.length = 32
  | [], _, h, _ => h
  | ((b, n), x) :: l, st, h1, h2 => pushAllH_hs l _ (pushH_hs st b n x h1 (h2 ((b, n), x) List.mem_cons_self)) (fun q hq => h2 q (List.mem_cons_of_mem _ hq))
theorem joinH_hs {a b c : Nat} {H G : List (List UInt8)} (hH : Tree.Hs H) (hG : Tree.Hs G) : Tree.Hs (Cut.joinH a b c H G) := fun x hx => by
  unfold Cut.joinH at hx
  obtain ⟨q, hq, rfl⟩ := List.mem_map.1 hx
  exact pushAllH_hs _ _ (fun q hq => hH _ (List.of_mem_zip (List.mem_reverse.1 hq)).2) (fun q hq => hG _ (List.of_mem_zip hq).2) q (List.mem_reverse.1 hq)
/-- all that is said of a run whose hashes and leaves are these -/
structure Rs (n b e kC kE T : Nat) (H L : List (List UInt8)) (val : Nat × Nat → List UInt8) : Prop where
  V : Val (rix b e) n H L val
  hT : T = (Tree.runF n 0 n b e).length
  hC : kC = (covL 0 b).length
  hE : kE = (covL 0 e).length
  le : kC ≤ T
  t81 : T ≤ 81
  e81 : kE ≤ 81
  h8 : hsB8 H = true
  l8 : hsB8 L = true
  hl : H.length = T
  ll : L.length = e - b
  cE : cmpE (b : Int) L = 0
  jE : joinE 0 (b : Int) (b : Int) (e : Int) (H.take kC) (Cut.cmp L b) = 0
  jl : (Cut.joinH 0 b e (H.take kC) (Cut.cmp L b)).length = kE
  fo : foldA (n : Int) (pmI (csp 0 e ++ (Tree.runF n 0 n b e).drop kC)) (Cut.joinH 0 b e (H.take kC) (Cut.cmp L b) ++ H.drop kC) 0 (n : Int) = (vb val 0 n, 0)
  re : rotE (n : Int) (b : Int) (e : Int) H L = 0
  kl : kE + (T - kC) ≤ 4096
theorem Rs.o {n b e kC kE T : Nat} {H L : List (List UInt8)} {val : Nat × Nat → List UInt8} (h : Rs n b e kC kE T H L val) : rotO (n : Int) (b : Int) (e : Int) H L (val (0, n)) := .inr ⟨h.re, val, by simpa using h.V, by simp⟩
theorem rs_is {n b e : Nat} (hbe : b < e) (hen : e ≤ n) (hn : n ≤ 1099511627776) (hm : e - b ≤ 300) {H L : List (List UInt8)} (hH : Tree.Hs H) (hL : Tree.Hs L) (hl : H.length = (Tree.runF n 0 n b e).length) (ll : L.length = e - b) : ∃ val, Rs n b e (covL 0 b).length (covL 0 e).length (Tree.runF n 0 n b e).length H L val := by
  obtain ⟨val, V⟩ := val_of hbe hen hl ll
  have h8 := hsB_is hH
  have l8 := hsB_is hL
  have hcb : (covL 0 b).length = (csp 0 b).length := cov_len 0 b
  have hce : (covL 0 e).length = (csp 0 e).length := cov_len 0 e
  have htc := told_cut hbe hen hn
  have hle : (csp 0 b).length ≤ (Tree.runF n 0 n b e).length := by rw [htc, List.length_append]; omega
  have ht := told_len (n := n) (s := b) (e := e) (by omega) hn
  have he := csp_len (b := 0) (e := e) (by omega) (by omega)
  have hcut0 : (csp 0 b).length = (Cut.cut 0 b).length := by rw [csp, List.length_map]
  have hcutE : (csp 0 e).length = (Cut.cut 0 e).length := by rw [csp, List.length_map]
  have hcmp : (Cut.cmp L b).length = (Cut.cut b e).length := by rw [Cut.cmp_length, ll, show b + (e - b) = e by omega]
  have htk : (H.take (csp 0 b).length).length = (Cut.cut 0 b).length := by rw [List.length_take, hl, hcut0]; omega
  have hjl := Cut.joinH_length (a := 0) (b := b) (c := e) (H := H.take (csp 0 b).length) (G := Cut.cmp L b) (by omega) (by omega) (by omega) htk hcmp
  have hj8 : hsB8 (Cut.joinH 0 b e (H.take (csp 0 b).length) (Cut.cmp L b)) = true := hsB_is (joinH_hs (hH.take _) (hs_of (cmp_hs b l8)))
  rw [hcb, hce]
  refine ⟨val, V, rfl, hcb.symm, hce.symm, hle, ht, he, h8, l8, hl, ll, ?_, ?_, ?_, ?_, ?_, ?_⟩
  · unfold cmpE
    rw [if_pos ⟨by omega, by omega, by omega⟩, if_pos (by omega), if_pos (show hsB L = true from l8)]
  · unfold joinE
    have r1 : rgt 0 (b : Int) (H.take (csp 0 b).length).length = true := by
      unfold rgt
      rw [decide_eq_true_eq]
      exact ⟨by omega, by omega, by omega, by omega, by omega, by rw [htk]; simp⟩
    have r2 : rgt (b : Int) (e : Int) (Cut.cmp L b).length = true := by
      unfold rgt
      rw [decide_eq_true_eq]
      exact ⟨by omega, by omega, by omega, by omega, by omega, by rw [hcmp]; simp⟩
    rw [if_pos ⟨r1, r2⟩, if_pos ⟨show hsB8 _ = true from hsB_is (hH.take _), show hsB8 _ = true from cmp_hs b l8⟩, if_pos rfl]
  · rw [hjl, hcutE]
  · exact fold_all V hbe hen hn ll rfl (hsB_app hj8 (hsB_is (hH.drop _)))
  · unfold rotE
    rw [if_pos ⟨by omega, by simp [runB]; omega⟩, if_pos ⟨by simpa using hl, by omega, by omega, h8, l8⟩]
  · omega
end Spn
end Go.Proofs.YthoakchdlidemaaDoor

/- Layer 14: a Join whose answer lies in a variable, which is made ahead of the call or behind it -/
namespace Go.Proofs.YthoakchdlidemaaDoor
open Go.RowKit Go.Shelf
namespace Spn
theorem rg_three14 {w : World} {g : Nat} {b e : Int} {v : Value} (h : Rg w g b e v) (b' e' : Int) (v' : Value) : ((w.setCell ⟨g, 0, none⟩ (.int .i64 b')).setCell ⟨g, 1, none⟩ (.int .i64 e')).setCell ⟨g, 2, none⟩ v' = w.setRow g #[.int .i64 b', .int .i64 e', v'] := by
  rw [setCell_eq_setRow w g 0 _ _ _ _ h, setCell_eq_setRow _ g 1 _ _ _ _ (setRow_heap _ _ _ _ _ _ h), setRow_setRow, setCell_eq_setRow _ g 2 _ _ _ _ (setRow_heap _ _ _ _ _ _ h), setRow_setRow]
  rfl
structure Jv (w w' : World) (g : Nat) (b e : Int) (a : Option Addr) (n k : Nat) (M : List (List UInt8)) : Prop where
  new : w.heap.size ≤ g
  rg : Rg w' g b e (.slice a n k)
  bel : Below w.heap.size w w'
  own : Own w' w.heap.size (.slice a n k) (svs M)
theorem join_at14 (w : World) (Z : Tb w) (b c e : Nat) (H1 H2 M : List (List UInt8)) (a1 a2 : Option Addr) (n1 n2 n k1 k2 : Nat) (h1 : H1.length = n1) (h2 : H2.length = n2) (h3 : M.length = n) (hl1 : n1 ≤ 9223372036854775807) (hl2 : n2 ≤ 9223372036854775807) (hA1 : At w a1 H1) (hA2 : At w a2 H2)
    (hE : joinE (b : Int) (c : Int) (c : Int) (e : Int) H1 H2 = 0) (hM : Cut.joinH b c e H1 H2 = M) :
    Calls Tryd.prog 11 #[rng (b : Int) (c : Int) (.slice a1 n1 k1), rng (c : Int) (e : Int) (.slice a2 n2 k2)] w fun r w' => ∃ a k, r = .returned (.tuple #[rng (b : Int) (e : Int) (.slice a n k), .int .i64 0]) ∧ Own w' w.heap.size (.slice a n k) (svs M) ∧ Below w.heap.size w w' := by
  subst h1 h2 h3
  have i := Join_any (b : Int) (c : Int) (c : Int) (e : Int) H1 H2 a1 a2 k1 k2 w hl1 hl2 hA1 hA2 Z
  rw [hE, Int.toNat_natCast, Int.toNat_natCast, Int.toNat_natCast, hM] at i
  refine i.mono fun r w' h => ?_
  obtain ⟨bb, h⟩ := h
  rw [if_pos rfl] at h
  obtain ⟨v, rfl, O⟩ := h
  obtain ⟨a, k, rfl, _, _, _⟩ := Own.at O
  exact ⟨a, k, rfl, O, bb⟩
theorem join_both14 (w : World) (Z : Tb w) (b c e : Nat) (H1 H2 M : List (List UInt8)) (a1 a2 : Option Addr) (n1 n2 n k1 k2 : Nat) (h1 : H1.length = n1) (h2 : H2.length = n2) (h3 : M.length = n) (hl1 : n1 ≤ 9223372036854775807) (hl2 : n2 ≤ 9223372036854775807) (hA1 : At w a1 H1) (hA2 : At w a2 H2)
    (hE : joinE (b : Int) (c : Int) (c : Int) (e : Int) H1 H2 = 0) (hM : Cut.joinH b c e H1 H2 = M) :
    (Calls Tryd.prog 11 #[rng (b : Int) (c : Int) (.slice a1 n1 k1), rng (c : Int) (e : Int) (.slice a2 n2 k2)] w.drew fun r w' => ∃ a k, r = .returned (.tuple #[rng (b : Int) (e : Int) (.slice a n k), .int .i64 0]) ∧
      Hid (Below w.heap.size w w') ∧ Hid (Jv w (w'.alloc (.cells #[Value.int .i64 (b : Int), .int .i64 (e : Int), .slice a n k] 40)) w'.heap.size b e a n k M)) ∧
    (Calls Tryd.prog 11 #[rng (b : Int) (c : Int) (.slice a1 n1 k1), rng (c : Int) (e : Int) (.slice a2 n2 k2)] (w.alloc (.cells #[Value.int .i64 0, .int .i64 0, .slice none 0 0] 40)).drew fun r w' => ∃ a k, r = .returned (.tuple #[rng (b : Int) (e : Int) (.slice a n k), .int .i64 0]) ∧
      Hid (Below w.heap.size w w') ∧ Hid (Jv w (((w'.setCell ⟨w.heap.size, 0, none⟩ (.int .i64 (b : Int))).setCell ⟨w.heap.size, 1, none⟩ (.int .i64 (e : Int))).setCell ⟨w.heap.size, 2, none⟩ (.slice a n k)) w.heap.size b e a n k M) ∧ Rg w' w.heap.size 0 0 (.slice none 0 0)) := by
  have bd := (Below.refl w.heap.size w).drew
  have az := (Below.refl w.heap.size w).alloc (Nat.le_refl _) (.cells #[Value.int .i64 0, .int .i64 0, .slice none 0 0] 40)
  have sz := size_alloc w (.cells #[Value.int .i64 0, .int .i64 0, .slice none 0 0] 40)
  have rz := Rg.new w 0 0 (.slice none 0 0)
  constructor
  · refine (join_at14 w.drew (Z.below bd Z.lt) b c e H1 H2 M a1 a2 n1 n2 n k1 k2 h1 h2 h3 hl1 hl2 (hA1.below bd (Nat.le_refl _)) (hA2.below bd (Nat.le_refl _)) hE hM).mono ?_
    rintro r w' ⟨a, k, rfl, O, bb⟩
    have b1 := drewBelow5 bb
    have hal := (Below.refl w'.heap.size w').alloc (Nat.le_refl _) (.cells #[Value.int .i64 (b : Int), .int .i64 (e : Int), .slice a n k] 40)
    exact ⟨a, k, rfl, hid b1, hid ⟨b1.size, Rg.new w' _ _ _, b1.trans (hal.mono b1.size), O.below hal (Nat.le_refl _)⟩⟩
  · have bd2 := az.drew
    refine (join_at14 _ (Z.below bd2 Z.lt) b c e H1 H2 M a1 a2 n1 n2 n k1 k2 h1 h2 h3 hl1 hl2 (hA1.below bd2 (Nat.le_refl _)) (hA2.below bd2 (Nat.le_refl _)) hE hM).mono ?_
    rintro r w' ⟨a, k, rfl, O, bb⟩
    have b1 := drewBelow5 bb
    have b2 := az.trans (b1.mono az.size)
    have rz2 := rz.below b1
    have O1 : Own w' (w.heap.size + 1) (.slice a n k) (svs M) := by rw [← sz]; exact O
    have O2 := O1.keep (Keep.ofSet (S := fun k => k = w.heap.size) w' w.heap.size 0 (.int .i64 (b : Int)) rfl) (fun k hk e => by have := O1.ge k hk; omega)
    have O3 := O2.keep (Keep.ofSet (S := fun k => k = w.heap.size) _ w.heap.size 1 (.int .i64 (e : Int)) rfl) (fun k hk e => by have := O1.ge k hk; omega)
    have O4 := O3.keep (Keep.ofSet (S := fun k => k = w.heap.size) _ w.heap.size 2 (.slice a n k) rfl) (fun k hk e => by have := O1.ge k hk; omega)
    refine ⟨a, k, rfl, hid b2, hid ⟨Nat.le_refl _, ?_, ?_, O4.mono (by omega)⟩, rz2⟩
    · rw [rg_three14 rz2]
      exact setRow_heap _ _ _ _ _ _ rz2
    · rw [rg_three14 rz2]
      exact Below.setRow b2 (Nat.le_refl _) _
end Spn
end Go.Proofs.YthoakchdlidemaaDoor

/- Layer 14: append of what stands behind the first k of a list -/
namespace Go.Proofs.YthoakchdlidemaaDoor
open Go.RowKit Go.Shelf
namespace Spn
theorem append_off14 (w : World) (v1 : Value) (l m : List (Nat × Nat)) (a : Option Addr) (c k : Nat) (h1 : OwnP w v1 l) (h2 : OwnP w (.slice a m.length c) m) (hk : k ≤ m.length) (hl : l.length ≤ 1099511627776) (hm : m.length ≤ 1099511627776) :
    ∃ v' w', (Builtin.append_ #[24, 24] 24 #[v1, .slice (if c = k then a else Option.map (fun x => x.add (k * 2)) a) (m.length - k) (c - k)]).run Tryd.prog w = .ok v' w' ∧ OwnP w' v' (l ++ m.drop k) ∧ Grow w w' v1 v' := by
  obtain ⟨i0, hi, hz0, hz1, hz2⟩ := info_parts infoSp8
  have hdl : (m.drop k).length = m.length - k := List.length_drop
  have one : ∀ u ∈ prs (m.drop k), u.oneCell' = true := fun u hu => by
    simp only [prs, List.mem_flatMap, List.mem_cons, List.not_mem_nil, or_false] at hu
    obtain ⟨q, _, rfl | rfl⟩ := hu <;> rfl
  have hpd : ∀ j u, (prs (m.drop k))[j]? = some u → (prs m)[k * 2 + j]? = some u := fun j u hj => by
    have h : prs m = prs (m.take k) ++ prs (m.drop k) := by rw [← prs_append, List.take_append_drop]
    have h' : (prs (m.take k)).length = k * 2 := by rw [prs_len, List.length_take]; omega
    rw [h, List.getElem?_append_right (by omega), h', show k * 2 + j - k * 2 = j by omega]
    exact hj
  have hsrc : Src Tryd.prog 2 24 (.slice (if c = k then a else Option.map (fun x => x.add (k * 2)) a) (m.length - k) (c - k)) (m.drop k).length (prs (m.drop k)) w := by
    rw [← hdl]
    rcases h2 with ⟨h, h', h''⟩ | ⟨g, cap, h, hc, _, h0, h4, _, _⟩
    · injection h with e1 e2 e3
      subst e1
      have hm0 : m = [] := List.length_eq_zero_iff.1 h'
      subst hm0
      have : (if c = k then none else Option.map (fun x : Addr => x.add (k * 2)) none) = none := by split <;> rfl
      rw [this, List.drop_nil]
      exact Src.ofNil w Tryd.underlying24 _
    · injection h with e1 e2 e3
      subst e1 e3
      by_cases hck : c = k
      · rw [if_pos hck]
        have hd : m.drop k = [] := List.drop_eq_nil_of_le (by omega)
        rw [hd]
        exact Src.ofSlice w Tryd.underlying24 ⟨g, 0, none⟩ 0 (c - k) (prs []) rfl (fun j u hj => by simp [prs] at hj) (fun u hu => by simp [prs] at hu)
      · rw [if_neg hck]
        exact Src.ofSlice w Tryd.underlying24 (Addr.add ⟨g, 0, none⟩ (k * 2)) _ (c - k) (prs (m.drop k)) (prs_len _) (fun j u hj => by
          rw [Addr.add_mid, Addr.add_mid, Nat.zero_add]
          have := h4 _ u (hpd j u hj)
          rw [Nat.zero_add] at this
          exact this) one
  by_cases hz : v1 = .slice none 0 0 ∧ (m.drop k).length = 0
  · obtain ⟨rfl, hm0⟩ := hz
    have hl0 : l.length = 0 := by
      rcases h1 with ⟨_, h, _⟩ | ⟨g, cap, h, _⟩
      · exact h
      · cases h
    obtain rfl : l = [] := List.length_eq_zero_iff.1 hl0
    have hd : m.drop k = [] := List.length_eq_zero_iff.1 hm0
    rw [hd, show m.length - k = 0 by omega]
    refine ⟨.slice none 0 0, w, ?_, OwnM.nil 2 w, ⟨rfl, rfl, rfl, Nat.le_refl _, fun _ _ _ => rfl, .inl rfl⟩⟩
    generalize (if c = k then a else Option.map (fun x => x.add (k * 2)) a) = aa
    cases aa with
    | none => kernel_rfl
    | some x => kernel_rfl
  · obtain ⟨v', w', a1, a2, a3⟩ := run_append_M (P := Tryd.prog) w 24 24 24 29 i0 (.agg #[.int .i64 0, .int .i64 0]) Tryd.underlying24 hi hz0 hz1 rfl v1 l.length (prs l) h1 _ (m.drop k).length (prs (m.drop k)) hsrc
      (by rw [hz2]; omega) (by rw [maxLen]; omega) (fun e => by
        rcases Nat.eq_zero_or_pos (m.drop k).length with h | h
        · exact absurd ⟨e, h⟩ hz
        · exact h)
    refine ⟨v', w', a1, ?_, a3⟩
    rw [OwnP, prs_append, List.length_append]
    exact a2
/-- what stands behind the first k, where it lies -/
theorem At.off14 {w : World} {a : Option Addr} {L : List (List UInt8)} {c k : Nat} (h : At w a L) (hc : L.length ≤ c) : At w (if c = k then a else Option.map (fun x => x.add k) a) (L.drop k) := by
  by_cases hck : c = k
  · have hd : L.drop k = [] := List.drop_eq_nil_of_le (by omega)
    rw [hd]
    exact fun j p hp => by simp at hp
  · rw [if_neg hck]
    cases a with
    | none =>
      have hd : L = [] := by
        cases L with
        | nil => rfl
        | cons x L => obtain ⟨_, h, _⟩ := h 0 x rfl; cases h
      subst hd
      exact fun j p hp => by simp at hp
    | some x => exact At.drop h k
theorem own_m14 {w : World} {base : Nat} {v : Value} {L : List (List UInt8)} (h : Own w base v (svs L)) : OwnM 1 w v L.length (svs L) := by
  have hl : (svs L).length = L.length := by simp [svs]
  rcases h with ⟨rfl, h⟩ | ⟨g, cap, rfl, _, h1, h2, h3, h4, h5⟩
  · have : L.length = 0 := by rw [← hl, h]; rfl
    exact .inl ⟨rfl, this, h⟩
  · exact .inr ⟨g, cap, by rw [hl], by omega, h2, by omega, h3, by rw [Nat.mul_one]; exact h4, h5⟩
theorem append_tail14 (w : World) (v : Value) (base : Nat) (l : List (List UInt8)) (a : Option Addr) (c k n : Nat) (L : List (List UInt8)) (h : Own w base v (svs l)) (hA : At w a L) (hc : L.length ≤ c) (hn : L.length = n) (hl : l.length + L.length ≤ 8000000000000) :
    ∃ v' w', (Builtin.append_ #[33, 33] 33 #[v, .slice (if c = k then a else Option.map (fun x => x.add k) a) (n - k) (c - k)]).run Tryd.prog w = .ok v' w' ∧ OwnM 1 w' v' (l ++ L.drop k).length (svs (l ++ L.drop k)) ∧ Grow w w' v v' := by
  have := append_txs w v l (if c = k then a else Option.map (fun x => x.add k) a) (c - k) (L.drop k) (own_m14 h) (At.off14 hA hc) (by rw [List.length_drop]; omega)
  rw [List.length_drop, hn] at this
  exact this
end Spn
end Go.Proofs.YthoakchdlidemaaDoor

/- Layer 14, the law: SpanRuns, from region 22 on -/
namespace Go.Proofs.YthoakchdlidemaaDoor
open Go.RowKit Go.Shelf
namespace Spn
theorem RnI.set3' {w : World} {g : Nat} {n x y : Int} {v : Value} (h : RnI w g n x y v) (v' : Value) : RnI (w.setCell ⟨g, 3, none⟩ v') g n x y v' := heap_setCell_same w g 3 _ _ _ h
theorem pk_nat' (c : Int) (k : Nat) (h : 0 < k) : ∃ p : Nat, pk c (k : Int) = (p : Int) ∧ p < k := ⟨(pk c k).toNat, by have := pk_nonneg c k (by omega); omega, by have := pk_lt c k (by omega); have := pk_nonneg c k (by omega); omega⟩
def startsR (n : Nat) : Code → Bool
  | .region m _ _ => m == n
  | .seq a _ => startsR n a
  | _ => false
def fromR (n : Nat) : Code → Option Code
  | .seq a b => if startsR n a then some (.seq a b) else (match fromR n a with | some c => some c | none => fromR n b)
  | .block _ c => fromR n c
  | .loop c => fromR n c
  | .scope c => fromR n c
  | .cond _ a b => (match fromR n a with | some c => some c | none => fromR n b)
  | .region m x d => if m == n then some (.region m x d) else none
  | _ => none
noncomputable def runsT : Code := ((Tryd.f3.body.bind (fromR 22)).getD .skip)
set_option maxRecDepth 1000000 in
set_option maxHeartbeats 8000000 in
theorem runs_tail {w w3 w4 w5 w6 w7 w8 w9 wc : World} {n b e t j kC kE qM c2 c3 cH cL gx cx : Nat} {a2 a3 aH aL ax : Option Addr} {val : Nat × Nat → List UInt8} {H LL CM M : List (List UInt8)} {vr so : List UInt8}
    (HZ : Hid (Tb w)) (hT : 4 ≤ w.heap.size) (hen : e ≤ n) (_hbe : b < e) (hn40 : n ≤ 1099511627776) (_HkC : Hid ((covL 0 b).length = kC)) (HkE : Hid ((covL 0 e).length = kE)) (he81 : kE ≤ 81) (q1 : j ≤ c2) (q2 : c2 ≤ 9223372036854775807) (_zw3 : Hid (w.heap.size ≤ w3.heap.size)) (_z4 : w3.heap.size < w4.heap.size)
    (HTT : Hid ((Tree.runF n 0 n b e).length = j)) (hle : kC ≤ j) (ht81 : j ≤ 81) (_F2 : Hid (∀ (k : Nat), (Value.slice a2 j c2).ownBlock = some k → w.heap.size ≤ k)) (_L2 : Hid (∀ (k : Nat), (Value.slice a2 j c2).ownBlock = some k → k < w3.heap.size)) (hcH1 : j ≤ cH) (_hcH2 : cH ≤ 9223372036854775807)
    (_F5 : Hid (∀ (b : Nat), (Value.slice aH j cH).ownBlock = some b → w4.heap.size ≤ b)) (_hK5 : Hid (Keep (fun k => k = w3.heap.size) w4 w5)) (hew : IntKind.i64.wrap ((b : Int) + (t : Int)) = (e : Int)) (hm1 : 1 ≤ t) (hm3 : t ≤ 300) (_HE : Hid (e = b + t)) (_hcL1 : t ≤ cL) (_hcL2 : cL ≤ 9223372036854775807) (HRS' : Hid (Rs n b e kC kE j H LL val)) (hHl : H.length = j) (hLl : LL.length = t)
    (_l5 : Hid (w5.heap.size ≤ w6.heap.size)) (Hvr : Hid (val (0, n) = vr)) (_l6 : Hid (w6.heap.size ≤ w7.heap.size)) (_HCM : Hid (Cut.cmp LL b = CM)) (_HqM : Hid (CM.length = qM)) (_hq81 : qM ≤ 81) (_l8 : Hid (w7.heap.size ≤ w8.heap.size)) (R9 : Hid (RnI w9 w3.heap.size (n : Int) (b : Int) (e : Int) (.slice aH j cH))) (AH9 : Hid (At w9 aH H)) (AL9 : Hid (At w9 aL LL))
    (O9 : Hid (OwnM 2 w9 (Value.slice a2 (Tree.runF n 0 n b e).length c2) (Tree.runF n 0 n b e).length (prs (Tree.runF n 0 n b e)))) (B9 : Hid (Below w.heap.size w w9)) (Hfo : Hid (foldA (n : Int) (pmI (csp 0 e ++ List.drop kC (Tree.runF n 0 n b e))) (M ++ List.drop kC H) 0 (n : Int) = (vb val 0 n, 0))) (Hjl : Hid (M.length = kE))
    (y1 : (0 : Int) ≤ (kC : Int)) (_y2 : (kC : Int) ≤ (cH : Int)) (HJ : Hid (Jv w9 wc gx 0 (e : Int) ax kE cx M)) (_l9 : Hid (w8.heap.size < w9.heap.size))
    (s0_ s1_ s2_ s3_ s5_ s6_ s7_ s8_ s9_ s29_ s30_ s31_ s32_ s33_ s34_ s35_ s36_ s37_ s38_ s39_ s40_ s41_ s42_ s43_ s44_ s45_ s46_ s47_ s48_ s49_ s50_ s51_ s52_ s53_ s54_ s55_ s56_ s57_ s58_ s59_ s60_ s61_ s62_ s63_ s64_ s65_ s66_ s67_ s68_ s69_ s70_ s71_ s72_ s73_ s74_ s75_ s76_ s77_ s78_ s79_ s80_ s81_ s82_ s83_ s84_ s85_ s86_ s87_ s88_ s89_ s90_ s91_ s92_ s93_ s94_ s95_ s96_ s97_ s98_ s99_ s100_ s101_ s102_ s103_ s104_ s105_ s106_ s107_ s108_ s109_ s110_ s111_ s112_ s113_ s114_ s115_ s116_ s117_ s118_ s119_ s120_ s121_ s122_ s123_ s124_ s125_ s126_ s127_ s128_ s129_ s130_ s131_ s132_ s133_ s134_ s135_ s136_ s137_ s138_ s139_ s140_ s141_ s142_ s143_ s144_ s145_ s146_ s147_ s148_ s149_ s150_ s151_ s152_ s153_ s154_ s155_ s156_ s157_ s158_ s159_ s160_ s161_ s162_ s163_ s164_ s165_ s166_ s167_ s168_ s169_ s170_ s171_ s172_ s173_ s174_ s175_ s176_ s177_ s178_ s179_ s180_ s181_ s182_ s183_ s184_ s185_ s186_ s187_ s188_ s189_ s190_ s191_ s192_ s193_ s194_ s195_ s196_ s197_ s198_ s199_ s200_ s201_ s202_ s203_ s204_ s205_ s206_ s207_ s208_ s209_ s210_ s211_ s212_ s213_ s214_ s215_ s216_ s217_ s218_ s219_ s220_ s221_ s222_ s223_ s224_ s225_ s226_ s227_ s228_ s229_ s230_ s231_ s232_ s233_ s234_ s235_ s236_ s237_ s238_ s239_ s240_ s241_ s242_ s243_ s244_ s245_ s246_ s247_ s248_ s249_ s250_ s251_ s252_ s253_ s254_ s255_ s256_ s257_ s258_ s259_ s260_ : Value) :
    Code.wp Tryd.prog runsT (bodyPost Tryd.prog Tryd.f3 fun r w' => r = .returned (.bool true) ∧ Below w.heap.size w w') ⟨#[s0_, s1_, s2_, s3_, sv so, s5_, s6_, s7_, s8_, s9_, .bool false, .bool true, .int .i64 (n : Int), .int .i64 (b : Int), .int .i64 (t : Int), .slice a2 j c2, .int .i64 0, .slice a3 kC c3, .int .i64 0, .pointer (some ⟨w3.heap.size, 0, none⟩), .int .i64 (j : Int), .slice aL t cL, .int .i64 (t : Int), .string ⟨vr.toArray⟩, .int .i64 0, .pointer (some ⟨w8.heap.size, 0, none⟩), .int .i64 0, .pointer (some ⟨gx, 0, none⟩), .int .i64 0, s29_, s30_, s31_, s32_, s33_, s34_, s35_, s36_, s37_, s38_, s39_, s40_, s41_, s42_, s43_, s44_, s45_, s46_, s47_, s48_, s49_, s50_, s51_, s52_, s53_, s54_, s55_, s56_, s57_, s58_, s59_, s60_, s61_, s62_, s63_, s64_, s65_, s66_, s67_, s68_, s69_, s70_, s71_, s72_, s73_, s74_, s75_, s76_, s77_, s78_, s79_, s80_, s81_, s82_, s83_, s84_, s85_, s86_, s87_, s88_, s89_, s90_, s91_, s92_, s93_, s94_, s95_, s96_, s97_, s98_, s99_, s100_, s101_, s102_, s103_, s104_, s105_, s106_, s107_, s108_, s109_, s110_, s111_, s112_, s113_, s114_, s115_, s116_, s117_, s118_, s119_, s120_, s121_, s122_, s123_, s124_, s125_, s126_, s127_, s128_, s129_, s130_, s131_, s132_, s133_, s134_, s135_, s136_, s137_, s138_, s139_, s140_, s141_, s142_, s143_, s144_, s145_, s146_, s147_, s148_, s149_, s150_, s151_, s152_, s153_, s154_, s155_, s156_, s157_, s158_, s159_, s160_, s161_, s162_, s163_, s164_, s165_, s166_, s167_, s168_, s169_, s170_, s171_, s172_, s173_, s174_, s175_, s176_, s177_, s178_, s179_, s180_, s181_, s182_, s183_, s184_, s185_, s186_, s187_, s188_, s189_, s190_, s191_, s192_, s193_, s194_, s195_, s196_, s197_, s198_, s199_, s200_, s201_, s202_, s203_, s204_, s205_, s206_, s207_, s208_, s209_, s210_, s211_, s212_, s213_, s214_, s215_, s216_, s217_, s218_, s219_, s220_, s221_, s222_, s223_, s224_, s225_, s226_, s227_, s228_, s229_, s230_, s231_, s232_, s233_, s234_, s235_, s236_, s237_, s238_, s239_, s240_, s241_, s242_, s243_, s244_, s245_, s246_, s247_, s248_, s249_, s250_, s251_, s252_, s253_, s254_, s255_, s256_, s257_, s258_, s259_, s260_], []⟩ wc := by
  conv => arg 2; whnf
  obtain ⟨w10, hw10⟩ : ∃ w10, w10 = wc := ⟨_, rfl⟩
  subst hw10
  have B10 := hid (B9.out.trans (HJ.out.bel.mono B9.out.size))
  have R10 := hid (R9.out.below HJ.out.bel)
  have O10 := hid (O9.out.below HJ.out.bel)
  have X10 := hid HJ.out.rg
  have W10 := hid HJ.out.own
  have G10 := hid HJ.out.new
  have l10 := hid HJ.out.bel.size
  have jC2 := cover_ok 0 e w10 (by omega) (by omega) (HZ.out.below B10.out hT)
  simp only [show ((0 : Nat) : Int) = 0 from rfl] at jC2
  have b910 := hid HJ.out.bel
  clear HJ O9
  go_wp2_with (go_at_call 7; fail)
  with_reducible refine jC2.mono ?_
  rintro r w11 ⟨b11, v11, rfl, o11, f11⟩
  obtain ⟨a11, c11, rfl, _, _⟩ := OwnM.shape o11
  rw [HkE.out]
  have B11 := hid (B10.out.trans (b11.mono B10.out.size))
  have R11 := hid (R10.out.below b11)
  have b911 := hid (b910.out.trans (b11.mono l10.out))
  have O11 := hid (O10.out.below b11)
  have X11 := hid (X10.out.below b11)
  have W11 := hid (W10.out.below b11 (Nat.le_refl _))
  have C11 := hid o11
  have l11 := hid b11.size
  have x2 := X11.out.c2
  clear jC2 b11 o11 f11 B10 R10 O10 X10 W10 b910
  go_wp2
  clear x2
  go_loopw [31, 32] (fun v i w' => ∃ q : Nat, q ≤ kE ∧ i = .int .i64 (q : Int) ∧ Hid (OwnP w' v ((csp 0 e).take q)) ∧ Hid (∀ b, v.ownBlock = some b → w11.heap.size ≤ b) ∧ Hid (Below w11.heap.size w11 w')) (fun _ i _ => kE - (intOf i).toNat)
  case atStart => exact ⟨0, by omega, rfl, by rw [List.take_zero]; exact OwnM.nil 2 _, fun b hb => (by cases hb), Below.refl _ _⟩
  case round =>
    obtain ⟨q, hq, rfl, hO, hF, hB⟩ := hrel
    by_cases hqE : q < kE
    · have d0 : (q : Int) < (kE : Int) := by omega
      have d1 : (0 : Int) ≤ (q : Int) := by omega
      have hqS : q < (csp 0 e).length := by rw [← cov_len, HkE.out]; exact hqE
      obtain ⟨lv, ix, P, g0, g1, g2, g3, g4⟩ := cov_at (b := 0) (e := e) (by omega) (by omega) hqS
      obtain ⟨g, ha11, hg, k0', k1'⟩ := ownP_at C11.out g0
      have k0 : wr.cell? ⟨g, q * 2, none⟩ = some (.int .i64 (lv : Int)) := (World.cell?_of_block (w := w11) (hB.out.block g hg)).trans k0'
      have k1 : wr.cell? ⟨g, q * 2 + 1, none⟩ = some (.int .i64 (ix : Int)) := (World.cell?_of_block (w := w11) (hB.out.block g hg)).trans k1'
      have hgw : g < wr.heap.size := Nat.lt_of_lt_of_le hg hB.out.size
      obtain ⟨A, hA⟩ : ∃ A, ix * P = A := ⟨_, rfl⟩
      obtain ⟨B, hB'⟩ : ∃ B, (ix + 1) * P = B := ⟨_, rfl⟩
      obtain ⟨i1, hi1⟩ : ∃ i1, ix + 1 = i1 := ⟨_, rfl⟩
      have hP1 : 1 ≤ P := by rw [g2]; exact Nat.two_pow_pos lv
      have hAB : A ≤ B := by rw [← hA, ← hB']; exact Nat.mul_le_mul_right _ (by omega)
      have hiB : i1 ≤ B := by rw [← hB', hi1]; exact Nat.le_mul_of_pos_right _ hP1
      have hx0 : (ix : Int) * 2 ^ lv = (A : Int) := by
        have : ((ix * P : Nat) : Int) = (ix : Int) * 2 ^ lv := by rw [g2]; push_cast; rfl
        rw [← this, hA]
      have hx1 : IntKind.i64.wrap ((ix : Int) * 2 ^ lv) = (A : Int) := by rw [hx0, IntKind.wrap_i64]; omega
      have hx2 : IntKind.i64.wrap ((ix : Int) + 1) = (i1 : Int) := by rw [IntKind.wrap_i64]; omega
      have hx4 : (i1 : Int) * 2 ^ lv = (B : Int) := by
        have : ((i1 * P : Nat) : Int) = (i1 : Int) * 2 ^ lv := by rw [g2]; push_cast; rfl
        rw [← this, ← hB', hi1]
      have hx3 : IntKind.i64.wrap ((i1 : Int) * 2 ^ lv) = (B : Int) := by rw [hx4, IntKind.wrap_i64]; omega
      have hlv : (lv : Int) ≤ 64 := by omega
      rw [hA, hB'] at g1
      have hnx : Hid ((csp 0 e).take (q + 1) = (csp 0 e).take q ++ [(A, B)]) := by unfold Hid; rw [List.take_add_one, List.getElem?_eq_getElem hqS, g1]; rfl
      obtain ⟨v7, w7', hap, hO7, hG7⟩ := append_pair wr.drew _ ((csp 0 e).take q) A B hO.out (by rw [List.length_take]; omega)
      have y0 : wr.drew.cell? ⟨g, q * 2, none⟩ = some (.int .i64 (lv : Int)) := k0
      have y1 : wr.drew.cell? ⟨g, q * 2 + 1, none⟩ = some (.int .i64 (ix : Int)) := k1
      have ba := (Below.refl wr.heap.size wr).alloc (Nat.le_refl _) (.cells #[.int .i64 (A : Int), .int .i64 (B : Int)] 29)
      have z0 := (World.cell?_of_block (w := wr) (ba.block g hgw)).trans k0
      have z1 := (World.cell?_of_block (w := wr) (ba.block g hgw)).trans k1
      have hold := hG7.old g hgw (fun h => by have := hF.out _ h; omega)
      have u0 := (World.cell?_of_block (w := wr.drew) hold).trans y0
      have u1 := (World.cell?_of_block (w := wr.drew) hold).trans y1
      subst ha11
      clear hA hB' hi1 hP1 hAB hiB g0 g1 g2 g3 g4 hx0 hx4 ba hold k0' k1' hgw hg
      go_upto_region 29 with fail
      go_region_held3 (fun W => W.cell? ⟨g, q * 2, none⟩ = some (.int .i64 (lv : Int)) ∧ W.cell? ⟨g, q * 2 + 1, none⟩ = some (.int .i64 (ix : Int))) (first | exact ⟨k0, k1⟩ | exact ⟨z0, z1⟩ | exact ⟨u0, u1⟩ | exact ⟨y0, y1⟩) (refine step_append_run rfl _ _ 24 rfl _ _ _ w7' rfl rfl hap ?_)
      all_goals
        obtain ⟨f7, b7⟩ := grow_fresh (B := w11.heap.size) hG7 hB.out.size hF.out
        have P1 := hid hO7
        rw [← hnx.out] at P1
        have P2 := hid f7
        have P3 := hid (hB.out.drew.trans b7)
        clear hap hO7 hG7 f7 b7 hnx y0 y1 k0 k1 z0 z1 u0 u1
        go_wp2
        exact ⟨⟨q + 1, by omega, by go_num, P1, P2, P3⟩, by simp [intOf]; omega⟩
    · obtain rfl : q = kE := by omega
      have d0 : ¬ (q : Int) < (q : Int) := by omega
      have hlast := hO.out
      rw [List.take_of_length_le (by rw [← cov_len, HkE.out]; exact Nat.le_refl _)] at hlast
      have y3 : (kC : Int) ≤ (j : Int) := by omega
      have y4 : (kC : Int) ≤ (c2 : Int) := by omega
      have y5 : (j : Int) ≤ (c2 : Int) := by omega
      have y6 : (0 : Int) ≤ (kC : Int) := by omega
      obtain ⟨w12, hw12⟩ : ∃ w12, w12 = wr := ⟨_, rfl⟩
      subst hw12
      obtain ⟨SP, hSP⟩ : ∃ SP, csp 0 e ++ (Tree.runF n 0 n b e).drop kC = SP := ⟨_, rfl⟩
      obtain ⟨HS, hHS⟩ : ∃ HS, M ++ H.drop kC = HS := ⟨_, rfl⟩
      have hSl : SP.length ≤ 4096 := by rw [← hSP, List.length_append, List.length_drop, HTT.out, ← cov_len, HkE.out]; omega
      have hHl2 : HS.length ≤ 4096 := by rw [← hHS, List.length_append, List.length_drop, Hjl.out]; omega
      have hfo := Hfo.out
      rw [hSP, hHS, show vb val 0 n = ⟨vr.toArray⟩ by unfold vb; rw [Hvr.out]] at hfo
      have Hfo := hid hfo
      obtain ⟨v13, w13, hap, hO13, hG13⟩ := append_off14 w12 _ (csp 0 e) (Tree.runF n 0 n b e) a2 c2 kC hlast (O11.out.below hB.out) (by rw [HTT.out]; omega) (by rw [← cov_len, HkE.out]; omega) (by rw [HTT.out]; omega)
      rw [hSP] at hO13
      rw [HTT.out] at hap
      obtain ⟨f13, b13'⟩ := grow_fresh (B := w11.heap.size) hG13 hB.out.size hF.out
      have b13 := hB.out.trans b13'
      obtain ⟨a13, c13, rfl, _, _⟩ := OwnM.shape hO13
      obtain ⟨ns, hns⟩ : ∃ ns, SP.length = ns := ⟨_, rfl⟩
      have Hns := hid hns
      rw [hns] at hap hG13 f13
      have P13 := hid hO13
      have F13 := hid f13
      have X13 := hid (X11.out.below b13)
      have R13 := hid (R11.out.below b13)
      have W13 := hid (W11.out.below b13 (Nat.le_refl _))
      have XL : Hid (∀ k, (Value.slice ax q cx).ownBlock = some k → k < w11.heap.size) := fun k hk => by
        rcases W11.out with ⟨h, _⟩ | ⟨g, cap, h, _, _, _, _, _, h6⟩
        · rw [h] at hk; cases hk
        · rw [h] at hk; cases hk; exact h6
      have b913 := hid (b911.out.trans (b13.mono b911.out.size))
      have l913 := hid b913.out.size
      clear hlast hO hF hB hfo hO13 f13 b13 b13' hG13 hns X11 R11 W11 O11 C11
      go_upto_region 31 with (at_builtin; refine Lib.wpList_append_run _ rfl _ _ 24 24 rfl _ _ rfl rfl _ _ hap ?_; clear hap)
      generalize (if c2 = kC then a2 else Option.map (fun x => x.add (kC * 2)) a2) = aO at *
      obtain ⟨v14, w14, hap, hO14, hG14⟩ := append_tail14 w13.drew (.slice ax q cx) w9.heap.size M aH cH kC j H W13.out (AH9.out.below b913.out.drew (Nat.le_refl _)) (by omega) hHl (by rw [Hjl.out]; omega)
      rw [hHS] at hO14
      obtain ⟨a14, c14, hv14, hat14, _, _⟩ := ownM_at hO14
      obtain ⟨nh, hnh⟩ : ∃ nh, HS.length = nh := ⟨_, rfl⟩
      have Hnh := hid hnh
      rw [hnh] at hv14
      subst hv14
      obtain ⟨_, b14'⟩ := grow_fresh (B := w9.heap.size) hG14 l913.out (fun k hk => W13.out.ge k hk)
      have b914 := hid (b913.out.drew.trans b14')
      have P13d : OwnP w13.drew (.slice a13 SP.length c13) SP := P13.out.below (Below.refl w13.heap.size w13).drew
      have P14 : OwnP w14 (.slice a13 SP.length c13) SP := OwnM.keep P13d (grow_keepS hG14) (fun k hk h => by
        have h1 := F13.out k (by rw [← Hns.out]; exact hk)
        have h2 := XL.out k h
        omega)
      have e14 := P14.atP
      have B14 := hid (B9.out.trans (b914.out.mono B9.out.size))
      have i6 := foldF_any (n : Int) (pmI SP) HS 0 (n : Int) a13 a14 c13 c14 w14 (by unfold pmI; rw [List.length_map]; omega) (by omega) e14 hat14 (HZ.out.below B14.out hT).t
      rw [Hfo.out, show (pmI SP).length = ns by unfold pmI; rw [List.length_map]; exact Hns.out, hnh] at i6
      dsimp only at i6
      have x2 := X13.out.c2
      have x3 := R13.out.c3
      have x2d : w13.drew.cell? ⟨gx, 2, none⟩ = some (.slice ax q cx) := x2
      have x3d : w13.drew.cell? ⟨w3.heap.size, 3, none⟩ = some (.slice aH j cH) := x3
      have R14 := R9.out.below b914.out
      have x3n := R14.c3
      have BF : Hid (∀ w', Below w14.heap.size w14 w' → Below w9.heap.size w9 w') := fun w' hb => b914.out.trans (hb.mono b914.out.size)
      go_cut [33, 34] (fun v33 v34 w' => v33 = .string ⟨vr.toArray⟩ ∧ v34 = .int .i64 0 ∧ Hid (Below w9.heap.size w9 w'))
      case first =>
        go_region_law (first
          | (refine step_append_run rfl _ _ 33 rfl _ _ _ w14 rfl rfl hap ?_)
          | (refine step_call14 rfl 12 #[.int .i64 (n : Int), .slice a13 ns c13, .slice a14 nh c14, sg 0 (n : Int)] (by kernel_rfl) (fun v w6 => v = .tuple #[.string ⟨vr.toArray⟩, .int .i64 0] ∧ Below w9.heap.size w9 w6) (i6.mono fun r w6 h => ⟨_, h.1, rfl, BF.out w6 h.2⟩) ?_; rintro v15 w15 ⟨rfl, b15⟩; have Q15 := hid b15; clear b15))
        all_goals (go_wp2_with fail)
        all_goals
          go_meet
          exact ⟨rfl, rfl, Q15⟩
      case rest =>
        obtain ⟨rfl, rfl, b9c⟩ := hcut
        obtain ⟨w15, hw15⟩ : ∃ w15, w15 = wc := ⟨_, rfl⟩
        subst hw15
        have R15 := R9.out.below b9c.out
        have B15 := hid (B9.out.trans (b9c.out.mono B9.out.size))
        have jK := fun rt w' (hb : Below w9.heap.size w9 w') => check14_any HRS'.out.o rt (by omega) (by omega) aH aL cH cL w' (AH9.out.below hb (Nat.le_refl _)) (AL9.out.below hb (Nat.le_refl _)) (HZ.out.below (B9.out.trans (hb.mono B9.out.size)) hT)
        rw [hHl, hLl, HRS'.out.re, Hvr.out] at jK
        have jO := jK so w15 b9c.out
        have hso : Hid (chkO 0 vr so = if vr = so then 0 else 142) := by unfold Hid chkO; rw [if_pos rfl]
        have hvv : chkO 0 vr vr = 0 := by unfold chkO; rw [if_pos rfl, if_pos rfl]
        rw [hso.out] at jO
        have q0 := R15.c0
        have q1 := R15.c1
        have q2' := R15.c2
        have q3 := R15.c3
        clear i6 hap hO14 hG14 hat14 P13d P14 e14 x2 x3 x2d x3d R14 x3n
        rw [show sv so = Value.string ⟨so.toArray⟩ from rfl] at jO ⊢
        go_wp2_with (go_at_call 13; fail)
        with_reducible refine jO.mono ?_
        rintro r w16 ⟨rfl, b16⟩
        have b916 := b9c.out.trans (b16.mono b9c.out.size)
        have R16 := R9.out.below b916
        have B16 := hid (B9.out.trans (b916.mono B9.out.size))
        have jV := jK vr w16 b916
        rw [hvv, show sv vr = Value.string ⟨vr.toArray⟩ from rfl] at jV
        have h916 := hid b916
        have q0 := R16.c0
        have q1 := R16.c1
        have q2' := R16.c2
        have q3 := R16.c3
        have htt : ((ByteArray.mk vr.toArray).toList == (ByteArray.mk vr.toArray).toList) = true := by simp
        clear jK jO b16 b916 R15 R16 R9
        by_cases h1 : vr = so
        · subst h1
          rw [if_pos rfl]
          go_wp2_with (go_at_call 13; (with_reducible refine jV.mono ?_); rintro r w17 ⟨rfl, b17⟩; have B17 := hid (B16.out.trans (b17.mono B16.out.size)); clear b17)
          go_ret
          exact ⟨rfl, B17.out⟩
        · rw [if_neg h1]
          have ht1 : ((ByteArray.mk so.toArray).toList == (ByteArray.mk vr.toArray).toList) = false := by simpa using fun h => h1 h.symm
          have ht2 : (so == vr) = false := by simpa using fun h => h1 h.symm
          clear h1
          go_wp2_with (go_at_call 13; (with_reducible refine jV.mono ?_); rintro r w17 ⟨rfl, b17⟩; have B17 := hid (B16.out.trans (b17.mono B16.out.size)); clear b17)
          go_ret
          exact ⟨rfl, B17.out⟩
end Spn
end Go.Proofs.YthoakchdlidemaaDoor
