import Derived.Test.YtejdecfpegpgcaaDoorCK5
import Derived.Deep.RegionLaw
namespace Go.Proofs.YtejdecfpegpgcaaDoor.Tree
/-- how many stand ahead of the first that is not below p -/
def cnt (p : Nat) (is : List Nat) : Nat := (is.takeWhile (fun i => decide (i < p))).length
theorem cnt_of (p : Nat) : ∀ (is : List Nat) (k : Nat), k ≤ is.length → (∀ j x, j < k → is[j]? = some x → x < p) → (∀ x, is[k]? = some x → ¬ x < p) → cnt p is = k
  | [], k, h, _, _ => by simp at h; subst h; rfl
  | i :: is, 0, _, _, h => by
    have := h i rfl
    simp [cnt, this]
  | i :: is, k + 1, hk, h1, h2 => by
    have hi := h1 0 i (by omega) rfl
    have := cnt_of p is k (by simpa using hk) (fun j x hj hx => h1 (j + 1) x (by omega) (by simpa using hx)) (fun x hx => h2 x (by simpa using hx))
    rw [cnt] at this ⊢
    rw [List.takeWhile_cons_of_pos (by simpa using hi), List.length_cons, this]
theorem cnt_le (p : Nat) (is : List Nat) : cnt p is ≤ is.length := by
  induction is with
  | nil => simp [cnt]
  | cons i is ih =>
    by_cases h : i < p
    · rw [cnt] at ih ⊢; rw [List.takeWhile_cons_of_pos (by simpa using h)]; simpa using ih
    · rw [cnt, List.takeWhile_cons_of_neg (by simpa using h)]; simp
theorem cnt_take (p : Nat) : ∀ (is : List Nat), is.Pairwise (· < ·) → is.take (cnt p is) = is.filter (· < p)
  | [], _ => rfl
  | i :: is, hp => by
    rw [List.pairwise_cons] at hp
    by_cases h : i < p
    · rw [cnt, List.takeWhile_cons_of_pos (by simpa using h), List.length_cons, List.take_succ_cons, List.filter_cons_of_pos (by simpa using h)]
      congr 1
      exact cnt_take p is hp.2
    · rw [cnt, List.takeWhile_cons_of_neg (by simpa using h)]
      symm
      rw [List.length_nil, List.take_zero, List.filter_eq_nil_iff]
      intro x hx
      rcases List.mem_cons.1 hx with rfl | hx
      · simpa using h
      · have := hp.1 x hx
        simp; omega
theorem cnt_drop (p : Nat) : ∀ (is : List Nat), is.Pairwise (· < ·) → is.drop (cnt p is) = is.filter (p ≤ ·)
  | [], _ => rfl
  | i :: is, hp => by
    rw [List.pairwise_cons] at hp
    by_cases h : i < p
    · rw [cnt, List.takeWhile_cons_of_pos (by simpa using h), List.length_cons, List.drop_succ_cons, List.filter_cons_of_neg (by simp; omega)]
      exact cnt_drop p is hp.2
    · rw [cnt, List.takeWhile_cons_of_neg (by simpa using h)]
      symm
      rw [List.length_nil, List.drop_zero, List.filter_eq_self]
      intro x hx
      rcases List.mem_cons.1 hx with rfl | hx
      · simp; omega
      · have := hp.1 x hx
        simp; omega
end Go.Proofs.YtejdecfpegpgcaaDoor.Tree
namespace Go.Proofs.YtejdecfpegpgcaaDoor
open Go.RowKit
/-- indices as whole numbers -/
def ix (is : List Nat) : List Int := is.map fun (i : Nat) => (i : Int)
theorem ix_len (is : List Nat) : (ix is).length = is.length := by simp [ix]
theorem AtI.nil (w : World) (a : Option Addr) : AtI w a [] := fun j p h => by simp at h
theorem AtI.heap {w w' : World} {a : Option Addr} {l : List Int} (h : AtI w a l) (e : w'.heap = w.heap) : AtI w' a l := fun j p hp => by
  obtain ⟨x, rfl, hx, hc⟩ := h j p hp
  refine ⟨x, rfl, by rw [e]; exact hx, ?_⟩
  rw [← hc]
  exact World.cell?_of_block (w := w) (by rw [e])
theorem AtI.take {w : World} {a : Option Addr} {l : List Int} (h : AtI w a l) (k : Nat) : AtI w a (l.take k) := fun j p hp => by
  rw [List.getElem?_take] at hp
  split at hp
  · exact h j p hp
  · cases hp
theorem AtI.drop {w : World} {x : Addr} {l : List Int} (h : AtI w (some x) l) (k : Nat) : AtI w (some (x.add k)) (l.drop k) := fun j p hp => by
  rw [List.getElem?_drop] at hp
  obtain ⟨y, hy, hx, hc⟩ := h (k + j) p hp
  obtain rfl := Option.some.inj hy
  exact ⟨_, rfl, by rw [addr_block]; exact hx, by rw [addr_add]; exact hc⟩
set_option maxRecDepth 100000 in
set_option maxHeartbeats 400000 in
theorem below_any (is : List Nat) (p : Nat) (a : Option Addr) (cap : Nat) (w : World) (hn : is.length ≤ 9223372036854775807) (hA : AtI w a (ix is)) :
    Calls Tryd.prog 100 #[.slice a is.length cap, .int .i64 p] w fun e w' => e = .returned (.int .i64 (Tree.cnt p is : Nat)) ∧ w' = w := by
  have HA := hid hA
  clear hA
  generalize hl : is.length = n at *
  go_enter Tryd.func100, Tryd.ntmps100
  go_wp2
  go_loopw [5] (fun i w' => ∃ k : Nat, k ≤ n ∧ i = .int .i64 (k : Int) ∧ Hid (∀ j x, j < k → is[j]? = some x → x < p) ∧ w' = w) (fun i _ => n - (intOf i).toNat)
  case atStart => exact ⟨0, by omega, rfl, fun j x hj => by omega, rfl⟩
  case round =>
    obtain ⟨k, hk, rfl, hall, rfl⟩ := hrel
    by_cases hkn : k < n
    · have b0 : (k : Int) < (n : Int) := by omega
      obtain ⟨x, rfl⟩ := HA.out.pos (by rw [ix_len]; omega)
      have hcell := HA.out.cell k (by rw [ix_len]; omega)
      have hi : is[k]? = some is[k] := List.getElem?_eq_getElem (by omega)
      have hv : (ix is)[k]'(by rw [ix_len]; omega) = ((is[k] : Nat) : Int) := by simp [ix]
      rw [hv] at hcell
      generalize is[k] = i at *
      by_cases hip : i < p
      · have b1 : (i : Int) < (p : Int) := by omega
        have hall' : Hid (∀ j x, j < k + 1 → is[j]? = some x → x < p) := fun j x hj hx => by
          by_cases e : j = k
          · subst e; rw [hi] at hx; obtain rfl := Option.some.inj hx; exact hip
          · exact hall.out j x (by omega) hx
        clear HA hi hall
        go_wp2
        exact ⟨⟨k + 1, by omega, by go_num, hall', trivial⟩, by simp [intOf]; omega⟩
      · have b1 : ¬ (i : Int) < (p : Int) := by omega
        have e := hid (Tree.cnt_of p is k (by omega) hall.out (fun y hy => by rw [hi] at hy; obtain rfl := Option.some.inj hy; exact hip))
        clear HA hi hall
        go_wp2
        go_ret
        exact ⟨by rw [e.out]; rfl, rfl⟩
    · have b0 : ¬ (k : Int) < (n : Int) := by omega
      have e := hid (Tree.cnt_of p is k (by omega) hall.out (fun y hy => by rw [List.getElem?_eq_none (by omega)] at hy; cases hy))
      clear HA hall
      go_wp2
      go_ret
      exact ⟨by rw [e.out]; rfl, rfl⟩
set_option maxRecDepth 100000 in
set_option maxHeartbeats 2000000 in
theorem cutI_lt (x : Addr) (n cap k : Nat) (hk : k < n) (hn : n ≤ cap) (w : World) :
    Calls Tryd.prog 99 #[.slice (some x) n cap, .int .i64 k] w fun e w' =>
      e = .returned (.tuple #[.slice (some x) k k, .slice (some (x.add k)) (n - k) (n - k)]) ∧ Below w.heap.size w w' ∧ w'.heap = w.heap := by
  have hne : ¬ n = k := by omega
  go_enter Tryd.func99, Tryd.ntmps99
  go_wp2
  go_quiet (fail)
  go_wp2
  go_ret2
  exact ⟨rfl, below_drewN (Below.refl _ _) _, rfl⟩
set_option maxRecDepth 100000 in
set_option maxHeartbeats 2000000 in
theorem cutI_eq (x : Addr) (n cap : Nat) (hn : n ≤ cap) (w : World) :
    Calls Tryd.prog 99 #[.slice (some x) n cap, .int .i64 n] w fun e w' =>
      e = .returned (.tuple #[.slice (some x) n n, .slice (some x) 0 0]) ∧ Below w.heap.size w w' ∧ w'.heap = w.heap := by
  go_enter Tryd.func99, Tryd.ntmps99
  go_wp2
  go_quiet (fail)
  go_wp2
  go_ret2
  exact ⟨by simp, below_drewN (Below.refl _ _) _, rfl⟩
/-- the indices are cut -/
theorem cutI_any (is : List Nat) (p : Nat) (x : Addr) (cap : Nat) (hn : is.length ≤ cap) (w : World) (hA : AtI w (some x) (ix is)) (hs : is.Pairwise (· < ·)) :
    Calls Tryd.prog 99 #[.slice (some x) is.length cap, .int .i64 (Tree.cnt p is : Nat)] w fun e w' => ∃ y : Addr,
      e = .returned (.tuple #[.slice (some x) (is.filter (· < p)).length (is.filter (· < p)).length, .slice (some y) (is.filter (p ≤ ·)).length (is.filter (p ≤ ·)).length]) ∧ AtI w' (some x) (ix (is.filter (· < p))) ∧ AtI w' (some y) (ix (is.filter (p ≤ ·))) ∧ Below w.heap.size w w' ∧ w'.heap = w.heap := by
  have h1 := Tree.cnt_take p is hs
  have h2 := Tree.cnt_drop p is hs
  have hk := Tree.cnt_le p is
  generalize Tree.cnt p is = k at *
  have l1 : (is.filter (· < p)).length = k := by rw [← h1, List.length_take]; omega
  have l2 : (is.filter (p ≤ ·)).length = is.length - k := by rw [← h2, List.length_drop]
  have hA1 : AtI w (some x) (ix (is.filter (· < p))) := by
    have := hA.take k
    rwa [ix, ← List.map_take, h1] at this
  by_cases hlt : k < is.length
  · refine (cutI_lt x is.length cap k hlt hn w).mono ?_
    rintro e w' ⟨rfl, hb, hh⟩
    have hA2 : AtI w (some (x.add k)) (ix (is.filter (p ≤ ·))) := by
      have := hA.drop k
      rwa [ix, ← List.map_drop, h2] at this
    exact ⟨_, by rw [l1, l2], hA1.heap hh, hA2.heap hh, hb, hh⟩
  · obtain rfl : k = is.length := by omega
    refine (cutI_eq x is.length cap hn w).mono ?_
    rintro e w' ⟨rfl, hb, hh⟩
    have e2 : is.filter (p ≤ ·) = [] := by rw [← h2, List.drop_length]
    exact ⟨x, by rw [l1, e2]; rfl, hA1.heap hh, by rw [e2]; exact AtI.nil _ _, hb, hh⟩
end Go.Proofs.YtejdecfpegpgcaaDoor

namespace Go.Proofs.YtejdecfpegpgcaaDoor
open Go.RowKit
theorem append_zero (w : World) (x : Value) (hs : Src Tryd.prog 1 55 x 0 [] w) :
    (Builtin.append_ #[55, 55] 55 #[.slice none 0 0, x]).run Tryd.prog w = .ok (.slice none 0 0) w := by
  obtain ⟨i0, hi, hz0, hz1, hz2⟩ := info_parts infoS
  have hc := hs.cells
  rw [← hz1] at hc
  simp [Builtin.append_, run_underlying Tryd.underlying55, sizeOf, typeInfo, hi, hs.len, hc]
theorem svs_one {L : List (List UInt8)} {v : Value} (h : v ∈ svs L) : v.oneCell' = true := by
  simp only [svs, List.mem_map] at h
  obtain ⟨n, _, rfl⟩ := h
  rfl
/-- append(l, m...) -/
theorem append_list (w : World) (base base2 : Nat) (v v2 : Value) (L L2 : List (List UInt8)) (hown : Own w base v (svs L)) (hown2 : Own w base2 v2 (svs L2)) (hlen : L.length + L2.length ≤ 2000000) (hbase : base ≤ w.heap.size) :
    ∃ v' w', (Builtin.append_ #[55, 55] 55 #[v, v2]).run Tryd.prog w = .ok v' w' ∧ Own w' base v' (svs (L ++ L2)) ∧ Below base w w' := by
  obtain ⟨i0, hi, hz0, hz1, hz2⟩ := info_parts infoS
  have hsrc : Src Tryd.prog 1 55 v2 L2.length (svs L2) w := by
    rcases hown2 with ⟨rfl, h⟩ | ⟨g, cap, rfl, h1, h2, h3, h4, h5, h6⟩
    · obtain rfl : L2 = [] := by simpa [svs] using h
      exact Src.ofNil w Tryd.underlying55 0
    · rw [svs_length]
      exact Src.ofSlice w Tryd.underlying55 ⟨g, 0, none⟩ L2.length cap (svs L2) (by rw [svs_length, Nat.mul_one]) (fun j u hj => by rw [Addr.add_mid]; exact h4 j u hj) (fun u hu => svs_one hu)
  by_cases h0 : v = .slice none 0 0 ∧ L2.length = 0
  · obtain ⟨rfl, h0⟩ := h0
    obtain rfl : L2 = [] := List.length_eq_zero_iff.1 h0
    have hL : L = [] := by
      rcases hown with ⟨_, h⟩ | ⟨g, cap, h, _⟩
      · simpa [svs] using h
      · cases h
    subst hL
    exact ⟨_, w, append_zero w v2 hsrc, Own.nil _ _, Below.refl _ _⟩
  · obtain ⟨v', w', h1, h2, h3, h4⟩ := run_append_O (P := Tryd.prog) w base 55 55 55 9 i0 (.string ⟨#[]⟩) Tryd.underlying55 hi hz0 hz1 rfl v (svs L) hown v2 L2.length (svs L2) hsrc
      (by rw [svs_length, hz2]; omega) (by rw [svs_length, maxLen]; omega) hbase (fun e => by
        have : ¬ L2.length = 0 := fun h => h0 ⟨e, h⟩
        omega)
    exact ⟨v', w', h1, by simpa [svs] using h2, Below.ofGrown h3 hown.ge hbase⟩
/-- an append whose run is known, as one step of a region that draws -/
theorem step_append_run {P : Program} {ops : Array Oper} {o : Oper} {a : Act} {w : World} {K : Act → World → Prop} {Q : Exit → Act → World → Prop} {E : Prop}
    (hg : o.guard = none) (s x : Operand) (t : TypeId) (hop : o.op = Op.call { callee := Callee.builtin Builtin.append, args := #[s, x], argTypes := #[t, t] })
    (v1 v2 v' : Value) (w' : World) (hs : a.eval s = v1) (hx : a.eval x = v2) (hrun : (Builtin.append_ #[t, t] o.type #[v1, v2]).run P w = .ok v' w') (hK : K (a.put o.dst v') w') :
    if Region.wanted o (yielded ops a.tmps) = true then Oper.wp P o a w K Q else E := by
  have hw : Region.wanted o (yielded ops a.tmps) = true := by simp [Region.wanted, hg]
  rw [if_pos hw]
  unfold Oper.wp
  simp [execOp, hop, resolve, invoke, builtin, hs, hx, hrun, Result.andThen]
  exact hK
set_option maxRecDepth 100000 in
set_option maxHeartbeats 400000 in
theorem many1_none (l : List (List UInt8)) (ai a : Option Addr) (capi cap c : Nat) (b : Int) (w : World) (hl : l.length ≤ cap) (hc : cap ≤ 9223372036854775807) (hA : At w a l) (T : Tabs w) :
    Calls Tryd.prog 98 #[.slice ai 0 capi, .slice a l.length cap, .int .i64 b, .pointer (some ⟨c, 0, none⟩)] w (Out w [Tree.root l]) := by
  have h2 := root_any l a cap w hl hc hA T
  generalize Tree.root l = r at *
  generalize l.length = n at *
  go_enter Tryd.func98, Tryd.ntmps98
  go_wp2_with (go_at_call 65; refine h2.mono ?_; rintro e w1 ⟨rfl, hw1⟩; rw [show sv r = Value.string ⟨r.toArray⟩ from rfl])
  go_ret
  exact ⟨_, rfl, own_one w1 w.heap.size r hw1.size, hw1.alloc hw1.size _⟩
set_option maxRecDepth 100000 in
set_option maxHeartbeats 400000 in
theorem many1_one (ai a : Option Addr) (ni capi cap c : Nat) (b : Int) (w : World) (hi : 0 < ni) :
    Calls Tryd.prog 98 #[.slice ai ni capi, .slice a 1 cap, .int .i64 b, .pointer (some ⟨c, 0, none⟩)] w (Out w []) := by
  have n0 : ((ni : Int) == 0) = false := by simp; omega
  go_enter Tryd.func98, Tryd.ntmps98
  go_wp2
  go_ret
  exact ⟨_, rfl, Own.nil _ _, Below.refl _ _⟩
set_option maxRecDepth 100000 in
set_option maxHeartbeats 2000000 in
theorem many1_any : ∀ (f : Nat) (l : List (List UInt8)) (is : List Nat) (b : Nat) (ai a : Option Addr) (capi cap c : Nat) (w : World), l.length ≤ f → l.length ≤ 1000000 → b ≤ 1000000 → 1 ≤ l.length → l.length ≤ cap → cap ≤ 9223372036854775807 → At w a l → Tabs w →
    is.length ≤ capi → capi ≤ 9223372036854775807 → AtI w ai (ix is) → is.Pairwise (· < ·) → b + l.length ≤ 1000000 →
    w.cell? ⟨c, 0, none⟩ = some (.func (.func 98) #[] #[.pointer (some ⟨c, 0, none⟩)]) →
    Calls Tryd.prog 98 #[.slice ai is.length capi, .slice a l.length cap, .int .i64 b, .pointer (some ⟨c, 0, none⟩)] w (Out w (Tree.many is b l)) := by
  intro f
  induction f with
  | zero => intro l is b ai a capi cap c w hf _ _ h1; omega
  | succ f ih =>
    intro l is b ai a capi cap c w hf hM hb hl1 hl hc hA T hil hic hAi hso hbl hcl
    by_cases hi : is = []
    · subst hi
      rw [Tree.many_none hl1]
      exact many1_none l ai a capi cap c b w hl hc hA T
    · have hi0 : 0 < is.length := List.length_pos_iff.2 hi
      by_cases h1 : l.length = 1
      · rw [Tree.many_one hi h1, h1]
        exact many1_one ai a is.length capi cap c b w hi0
      · obtain ⟨n, hn⟩ : ∃ n, l.length = n := ⟨_, rfl⟩
        have h2 : 2 ≤ n := by omega
        obtain ⟨x, rfl⟩ := hA.pos (by rw [hn]; omega)
        obtain ⟨xi, rfl⟩ := hAi.pos (by rw [ix_len]; omega)
        have e := hid (Tree.many_cut (b := b) hi (l := l) (by rw [hn]; exact h2))
        rw [hn] at e hf hl hM h1 hbl ⊢
        have k1 := Tree.sp_lt h2
        have k2 := Tree.sp_pos h2
        have hs : spI (n : Int) = ((Tree.sp n : Nat) : Int) := rfl
        generalize Tree.sp n = k at *
        have l1 : (l.take k).length = k := by rw [List.length_take, hn]; omega
        have l2 : (l.drop k).length = n - k := by rw [List.length_drop, hn]
        have n0 : ((is.length : Int) == 0) = false := by simp; omega
        have n2 : ((n : Int) == 1) = false := by simp; omega
        have A1 := hid (hA.take k)
        have A2 := hid (hA.drop k)
        obtain ⟨q, hq⟩ : ∃ q : Nat, b + k = q := ⟨_, rfl⟩
        have ebk : (b : Int) + (k : Int) = (q : Int) := by omega
        have hwq : IntKind.i64.wrap (q : Int) = (q : Int) := wrap_small _ (by omega) (by omega)
        rw [hq] at e
        have cB := below_any is q (some xi) capi
        have cC := cutI_any is q xi capi hil
        have hso1 : (is.filter (· < q)).Pairwise (· < ·) := hso.filter _
        have hso2 : (is.filter (q ≤ ·)).Pairwise (· < ·) := hso.filter _
        have c1 := fun w' (h : At w' (some x) (l.take k)) hT (g : AtI w' (some xi) (ix (is.filter (· < q)))) => ih (l.take k) (is.filter (· < q)) b (some xi) (some x) (is.filter (· < q)).length k c w' (by omega) (by omega) hb (by omega) (by omega) (by omega) h hT (Nat.le_refl _) (by have := List.length_filter_le (fun i => decide (i < q)) is; omega) g hso1 (by omega)
        have c2 := fun w' (y : Addr) (h : At w' (some (x.add k)) (l.drop k)) hT (g : AtI w' (some y) (ix (is.filter (q ≤ ·)))) => ih (l.drop k) (is.filter (q ≤ ·)) q (some y) (some (x.add k)) (is.filter (q ≤ ·)).length (n - k) c w' (by omega) (by omega) (by omega) (by omega) (by omega) (by omega) h hT (Nat.le_refl _) (by have := List.length_filter_le (fun i => decide (q ≤ i)) is; omega) g hso2 (by omega)
        rw [l1] at c1
        rw [l2] at c2
        have m1 := Tree.many_length _ (is.filter (· < q)) b (l.take k) (Nat.le_refl _) (by omega)
        have m2 := Tree.many_length _ (is.filter (q ≤ ·)) q (l.drop k) (Nat.le_refl _) (by omega)
        generalize Tree.many (is.filter (· < q)) b (l.take k) = L1 at *
        generalize Tree.many (is.filter (q ≤ ·)) q (l.drop k) = L2 at *
        generalize is.filter (· < q) = F1 at *
        generalize is.filter (q ≤ ·) = F2 at *
        generalize Tree.cnt q is = t at *
        generalize F1.length = f1 at *
        generalize F2.length = f2 at *
        have HT := hid T
        have HI := hid hAi
        have HQ := hid hq
        clear hA ih hn hAi T hq
        go_enter Tryd.func98, Tryd.ntmps98
        go_wp2_with (first
          | (go_at_call 94; refine (split_any (n : Int) (by omega) (by omega) _).mono ?_; rintro e w0 ⟨rfl, rfl⟩; rw [hs])
          | (go_at_call 93; refine (cut_any x n cap k k1 hl _).mono ?_; rintro e wc ⟨rfl, hbc, hhc⟩; have hcl0 := cell_below hcl hbc)
          | (go_at_call 100; refine (cB _ (by omega) (HI.out.heap hhc)).mono ?_; rintro e wb ⟨rfl, rfl⟩)
          | (go_at_call 99; refine (cC _ (HI.out.heap hhc) hso).mono ?_; rintro e wi ⟨y, rfl, hI1, hI2, hbi, hhi⟩; have hcl1 := cell_below hcl0 hbi))
        have Bc := hid ((hbc.trans (hbi.mono hbc.size)).drew)
        have A1c := hid ((A1.out.heap hhc).heap (w' := wi.drew) hhi)
        have A2c := hid ((A2.out.heap hhc).heap (w' := wi.drew) hhi)
        have I1c := hid (hI1.heap (w' := wi.drew) rfl)
        have I2c := hid (hI2.heap (w' := wi.drew) rfl)
        have Tc := hid (HT.out.below Bc.out HT.out.lt)
        have hcl2 : wi.drew.cell? ⟨c, 0, none⟩ = some (.func (.func 98) #[] #[.pointer (some ⟨c, 0, none⟩)]) := hcl1
        clear hbc hhc hbi hhi hI1 hI2 A1 A2 HT HI hcl hcl0 hcl1 cB cC
        go_region_law (first
          | (refine step_append_run rfl _ _ 55 rfl v1 v2 v3 w3 rfl rfl hap ?_)
          | (go_simp; go_at_call 98; (with_reducible refine (c1 _ A1c.out Tc.out I1c.out hcl2).mono ?_); rintro e w1 ⟨v1, rfl, hO1, hw1⟩; have hcl3 := cell_below hcl2 hw1; dsimp only)
          | (go_simp; go_at_call 98; (with_reducible refine (c2 _ y (A2c.out.below hw1 (Nat.le_refl _)) (Tc.out.below hw1 Tc.out.lt) (I2c.out.below hw1 (Nat.le_refl _)) hcl3).mono ?_); rintro e w2 ⟨v2, rfl, hO2, hw2⟩; obtain ⟨v3, w3, hap, hO3, hb3⟩ := append_list w2 wi.drew.heap.size w1.heap.size v1 v2 L1 L2 (hO1.below hw2 (Nat.le_refl _)) hO2 (by omega) (Nat.le_trans hw1.size hw2.size); dsimp only))
        all_goals
          have s1 := hw1.size
          have s2 := hw2.size
          have s3 := Bc.out.size
          have Bf := hid (((Bc.out.trans (hw1.mono s3)).trans (hw2.mono (Nat.le_trans s3 s1))).trans (hb3.mono s3))
          have Of := hid (hO3.mono s3)
          clear hw1 hw2 hb3 s1 s2 s3 Bc hO3
          go_wp2
          go_ret
          exact ⟨_, rfl, by rw [e.out]; exact Of.out, Bf.out⟩
end Go.Proofs.YtejdecfpegpgcaaDoor

namespace Go.Proofs.YtejdecfpegpgcaaDoor
open Go.RowKit
/-- T4: some, not too many, each a leaf's, rising -/
structure OkI (n : Nat) (cs : List Int) : Prop where
  pos : 0 < cs.length
  few : cs.length ≤ 256
  leaf : ∀ (j : Nat) (x : Int), cs[j]? = some x → 0 ≤ x ∧ x < n
  rise : ∀ (j : Nat) (x y : Int), cs[j]? = some x → cs[j + 1]? = some y → x < y
theorem pw_of : ∀ (is : List Nat), (∀ (j x y : Nat), is[j]? = some x → is[j + 1]? = some y → x < y) → is.Pairwise (· < ·)
  | [], _ => List.Pairwise.nil
  | [i], _ => by simp
  | i :: k :: t, h => by
    have ih := pw_of (k :: t) (fun j x y hx hy => h (j + 1) x y (by simpa using hx) (by simpa using hy))
    have hik := h 0 i k rfl rfl
    rw [List.pairwise_cons]
    refine ⟨fun y hy => ?_, ih⟩
    rcases List.mem_cons.1 hy with rfl | hy
    · exact hik
    · exact Nat.lt_trans hik ((List.pairwise_cons.1 ih).1 y hy)
def toN (cs : List Int) : List Nat := cs.map Int.toNat
theorem toN_len (cs : List Int) : (toN cs).length = cs.length := by simp [toN]
theorem OkI.ix {n : Nat} {cs : List Int} (h : OkI n cs) : ix (toN cs) = cs := by
  unfold Go.Proofs.YtejdecfpegpgcaaDoor.ix toN
  rw [List.map_map]
  conv => rhs; rw [← List.map_id cs]
  refine List.map_congr_left fun x hx => ?_
  obtain ⟨j, hj, rfl⟩ := List.getElem_of_mem hx
  have := (h.leaf j _ (List.getElem?_eq_getElem hj)).1
  show ((cs[j].toNat : Nat) : Int) = cs[j]
  omega
theorem OkI.sorted {n : Nat} {cs : List Int} (h : OkI n cs) : (toN cs).Pairwise (· < ·) := by
  refine pw_of _ fun j x y hx hy => ?_
  simp only [toN, List.getElem?_map, Option.map_eq_some_iff] at hx hy
  obtain ⟨a, ha, rfl⟩ := hx
  obtain ⟨b, hb, rfl⟩ := hy
  have h1 := h.rise j a b ha hb
  have h2 := (h.leaf j a ha).1
  omega
theorem OkI.lt {n : Nat} {cs : List Int} (h : OkI n cs) : ∀ i ∈ toN cs, i < n := fun i hi => by
  simp only [toN, List.mem_map] at hi
  obtain ⟨x, hx, rfl⟩ := hi
  obtain ⟨j, hj, rfl⟩ := List.getElem_of_mem hx
  have := h.leaf j _ (List.getElem?_eq_getElem hj)
  omega
set_option maxRecDepth 100000 in
set_option maxHeartbeats 400000 in
theorem many_any (l : List (List UInt8)) (is : List Nat) (ai a : Option Addr) (capi cap : Nat) (w : World) (hM : l.length ≤ 1000000) (hl1 : 1 ≤ l.length) (hl : l.length ≤ cap) (hc : cap ≤ 9223372036854775807) (hA : At w a l) (T : Tabs w)
    (hil : is.length ≤ capi) (hic : capi ≤ 9223372036854775807) (hAi : AtI w ai (ix is)) (hso : is.Pairwise (· < ·)) :
    Calls Tryd.prog 70 #[.slice a l.length cap, .slice ai is.length capi] w (Out w (Tree.many is 0 l)) := by
  have hmf : ∀ (fn : Fn) (first cap : Array Value) (w : World), (Instr.makeFunc fn first cap).run Tryd.prog w = .ok (.func fn first cap) w := fun _ _ _ _ => rfl
  have hb := (Below.refl w.heap.size w).alloc (Nat.le_refl _) (.cells #[Value.func (.func 98) #[] #[Value.pointer (some ⟨w.heap.size, 0, none⟩)]] 124)
  have hc1 := many1_any _ l is 0 ai a capi cap w.heap.size (w.alloc (.cells #[Value.func (.func 98) #[] #[Value.pointer (some ⟨w.heap.size, 0, none⟩)]] 124)) (Nat.le_refl _) hM (by omega) hl1 hl hc (hA.below hb (Nat.le_refl _)) (T.below hb T.lt) hil hic (hAi.below hb (Nat.le_refl _)) hso (by omega)
    (by rw [cell_of_row _ _ _ _ _ _ (heap_alloc_new w _)]; rfl)
  rw [show ((0 : Nat) : Int) = 0 from rfl] at hc1
  generalize Tree.many is 0 l = L at *
  generalize l.length = n at *
  generalize is.length = ni at *
  clear hA T hc hl hAi hso
  go_enter Tryd.func70, Tryd.ntmps70
  go_wp2_with (go_at_call 98; refine hc1.mono ?_; rintro e w1 ⟨v1, rfl, hO1, hw1⟩)
  go_ret
  exact ⟨_, rfl, hO1.mono hb.size, hb.trans (hw1.mono (by rw [size_alloc]; omega))⟩
/-- yes or no -/
def SaidB (P : Prop) (w : World) (e : Ending) (w' : World) : Prop := (∃ b : Bool, e = .returned (.bool b) ∧ (b = true ↔ P)) ∧ w' = w
set_option maxRecDepth 100000 in
set_option maxHeartbeats 1000000 in
theorem areLeaves_any (n : Nat) (cs : List Int) (a ai : Option Addr) (cap capi : Nat) (w : World) (hcs : cs.length ≤ 9223372036854775807) (hA : AtI w ai cs) :
    Calls Tryd.prog 69 #[.slice a n cap, .slice ai cs.length capi] w (SaidB (OkI n cs) w) := by
  have HA := hid hA
  clear hA
  by_cases h0 : cs.length = 0
  · rw [h0]
    go_enter Tryd.func69, Tryd.ntmps69
    go_wp2
    go_ret
    exact ⟨⟨_, rfl, ⟨fun h => (by cases h), fun h => by have := h.pos; omega⟩⟩, rfl⟩
  · by_cases h256 : 256 < cs.length
    · have z0 : ((cs.length : Int) == 0) = false := by rw [beq_eq_false_iff_ne]; omega
      have z1 : (256 : Int) < (cs.length : Int) := by omega
      have e := hid (show ¬ OkI n cs from fun h => by have := h.few; omega)
      generalize cs.length = m at *
      go_enter Tryd.func69, Tryd.ntmps69
      go_wp2
      go_ret
      exact ⟨⟨_, rfl, ⟨fun h => (by cases h), fun h => absurd h e.out⟩⟩, rfl⟩
    · have z0 : ((cs.length : Int) == 0) = false := by rw [beq_eq_false_iff_ne]; omega
      have z1 : ¬ (256 : Int) < (cs.length : Int) := by omega
      obtain ⟨m, hm⟩ : ∃ m, cs.length = m := ⟨_, rfl⟩
      rw [hm] at z0 z1 ⊢
      obtain ⟨x, rfl⟩ := HA.out.pos (by omega)
      go_enter Tryd.func69, Tryd.ntmps69
      go_wp2
      go_loopw [17] (fun i w' => ∃ k : Nat, k ≤ m ∧ i = .int .i64 (k : Int) ∧ Hid (∀ (j : Nat) (x : Int), j < k → cs[j]? = some x → 0 ≤ x ∧ x < n) ∧ Hid (∀ (j : Nat) (x y : Int), j + 1 < k → cs[j]? = some x → cs[j + 1]? = some y → x < y) ∧ w' = w) (fun i _ => m - (intOf i).toNat)
      case atStart => exact ⟨0, by omega, rfl, fun j x hj => by omega, fun j x y hj => by omega, rfl⟩
      case round =>
        obtain ⟨k, hk, rfl, hL, hR, rfl⟩ := hrel
        by_cases hkm : k < m
        · have b0 : (k : Int) < (m : Int) := by omega
          have hcell := HA.out.cell k (by omega)
          have hi : cs[k]? = some cs[k] := List.getElem?_eq_getElem (by omega)
          obtain ⟨i, hie⟩ : ∃ i, cs[k] = i := ⟨_, rfl⟩
          rw [hie] at hcell hi
          have Hi := hid hi
          clear hi hie
          by_cases hin : 0 ≤ i ∧ i < n
          · have hL' : Hid (∀ (j : Nat) (x : Int), j < k + 1 → cs[j]? = some x → 0 ≤ x ∧ x < n) := fun j x hj hx => by
              by_cases e : j = k
              · subst e; rw [Hi.out] at hx; obtain rfl := Option.some.inj hx; exact hin
              · exact hL.out j x (by omega) hx
            have cL := isLeaf_yes a n cap i hin
            by_cases hk0 : k = 0
            · subst hk0
              rw [addr_zero] at hcell
              have b1 : ¬ (0 : Int) < ((0 : Nat) : Int) := by omega
              have hR' : Hid (∀ (j : Nat) (x y : Int), j + 1 < 0 + 1 → cs[j]? = some x → cs[j + 1]? = some y → x < y) := fun j x y hj => by omega
              clear hL hR hin
              go_wp2_with (go_at_call 66; refine (cL _).mono ?_; rintro e w' ⟨rfl, rfl⟩)
              exact ⟨⟨0 + 1, by omega, by go_num, hL', hR', trivial⟩, by simp [intOf]; omega⟩
            · have b1 : (0 : Int) < (k : Int) := by omega
              have b2 : (k : Int) - 1 = ((k - 1 : Nat) : Int) := by omega
              have b3 : (0 : Int) ≤ (k : Int) - 1 := by omega
              have b4 : (k : Int) - 1 < (m : Int) := by omega
              have b5 : ((k : Int) - 1).toNat = k - 1 := by omega
              have hcell2 := HA.out.cell (k - 1) (by omega)
              have hp : cs[k - 1]? = some cs[k - 1] := List.getElem?_eq_getElem (by omega)
              obtain ⟨p, hpe⟩ : ∃ p, cs[k - 1] = p := ⟨_, rfl⟩
              rw [hpe] at hcell2 hp
              have Hp := hid hp
              have B2 := hid b2
              clear hp hpe b2
              by_cases hpi : p < i
              · have b6 : ¬ i ≤ p := by omega
                have hR' : Hid (∀ (j : Nat) (x y : Int), j + 1 < k + 1 → cs[j]? = some x → cs[j + 1]? = some y → x < y) := fun j x y hj hx hy => by
                  by_cases e : j + 1 = k
                  · have ej : j = k - 1 := by omega
                    subst ej
                    rw [Hp.out] at hx
                    rw [e, Hi.out] at hy
                    obtain rfl := Option.some.inj hx
                    obtain rfl := Option.some.inj hy
                    exact hpi
                  · exact hR.out j x y (by omega) hx hy
                clear hL hR hin
                go_wp2_with (go_at_call 66; refine (cL _).mono ?_; rintro e w' ⟨rfl, rfl⟩)
                exact ⟨⟨k + 1, by omega, by go_num, hL', hR', trivial⟩, by simp [intOf]; omega⟩
              · have b6 : i ≤ p := by omega
                have e := hid (show ¬ OkI n cs from fun h => hpi (h.rise (k - 1) p i Hp.out (by rw [show k - 1 + 1 = k from by omega]; exact Hi.out)))
                clear hL hR hin
                go_wp2_with (go_at_call 66; refine (cL _).mono ?_; rintro e w' ⟨rfl, rfl⟩)
                go_ret
                exact ⟨⟨_, rfl, ⟨fun h => (by cases h), fun h => absurd h e.out⟩⟩, rfl⟩
          · have cL := isLeaf_no a n cap i hin
            have e := hid (show ¬ OkI n cs from fun h => hin (h.leaf k i Hi.out))
            clear hL hR hin
            go_wp2_with (go_at_call 66; refine (cL _).mono ?_; rintro e w' ⟨rfl, rfl⟩)
            go_ret
            exact ⟨⟨_, rfl, ⟨fun h => (by cases h), fun h => absurd h e.out⟩⟩, rfl⟩
        · obtain rfl : k = m := by omega
          have b0 : ¬ (k : Int) < (k : Int) := by omega
          have e := hid (show OkI n cs from ⟨by omega, by omega, fun j x hx => hL.out j x (by have := (List.getElem?_eq_some_iff.1 hx).1; omega) hx, fun j x y hx hy => hR.out j x y (by have := (List.getElem?_eq_some_iff.1 hy).1; omega) hx hy⟩)
          clear hL hR
          go_wp2
          go_ret
          exact ⟨⟨_, rfl, ⟨fun _ => e.out, fun _ => rfl⟩⟩, rfl⟩
end Go.Proofs.YtejdecfpegpgcaaDoor

namespace Go.Proofs.YtejdecfpegpgcaaDoor
open Go.RowKit
open Classical in
/-- T4 -/
noncomputable def manyOut (l : List (List UInt8)) (cs : List Int) : List (List UInt8) × Int := if wrg l = 0 then (if OkI l.length cs then (Tree.many (toN cs) 0 l, 0) else ([], 30)) else ([], wrg l)
set_option maxRecDepth 100000 in
set_option maxHeartbeats 400000 in
theorem Many_any (l : List (List UInt8)) (cs : List Int) (a ai : Option Addr) (cap capi : Nat) (w : World) (hl : l.length ≤ cap) (hc : cap ≤ 9223372036854775807) (hA : At w a l) (T : Tabs w) (hil : cs.length ≤ capi) (hic : capi ≤ 9223372036854775807) (hAi : AtI w ai cs) :
    Calls Tryd.prog 35 #[.slice a l.length cap, .slice ai cs.length capi] w (Out2 w (manyOut l cs)) := by
  have h1 := check_any l a cap w (by omega) hA
  have h3 := areLeaves_any l.length cs a ai cap capi w (by omega) hAi
  by_cases h : wrg l = 0
  · have h4 := wrg_le h
    rw [h] at h1
    by_cases hm : OkI l.length cs
    · have ho : manyOut l cs = (Tree.many (toN cs) 0 l, 0) := by rw [manyOut, if_pos h, if_pos hm]
      rw [ho]
      have hlp : 1 ≤ l.length := by
        have := (hm.leaf 0 _ (List.getElem?_eq_getElem hm.pos))
        omega
      have h2 := many_any l (toN cs) ai a capi cap w (by omega) hlp hl hc hA T (by rw [toN_len]; exact hil) hic (by rw [hm.ix]; exact hAi) hm.sorted
      rw [toN_len] at h2
      generalize Tree.many (toN cs) 0 l = L at *
      have Hm := hid hm
      generalize l.length = n at *
      generalize cs.length = ni at *
      clear h hA T hm ho hAi
      go_enter Tryd.func35, Tryd.ntmps35
      go_wp2_with (first
        | (go_at_call 64; refine h1.mono ?_; rintro e w1 ⟨rfl, rfl⟩)
        | (go_at_call 69; refine h3.mono ?_; rintro e w1 ⟨⟨b, rfl, hb⟩, rfl⟩; obtain rfl := hb.2 Hm.out)
        | (go_at_call 70; refine h2.mono ?_; rintro e w2 ⟨v2, rfl, hO2, hw2⟩))
      go_ret2
      exact ⟨_, rfl, hO2, hw2⟩
    · have ho : manyOut l cs = ([], 30) := by rw [manyOut, if_pos h, if_neg hm]
      rw [ho]
      have Hm := hid hm
      generalize l.length = n at *
      generalize cs.length = ni at *
      clear h hA T hm ho hAi
      go_enter Tryd.func35, Tryd.ntmps35
      go_wp2_with (first
        | (go_at_call 64; refine h1.mono ?_; rintro e w1 ⟨rfl, rfl⟩)
        | (go_at_call 69; refine h3.mono ?_; rintro e w1 ⟨⟨b, rfl, hb⟩, rfl⟩; obtain rfl : b = false := Bool.eq_false_iff.2 (fun hbt => Hm.out (hb.1 hbt))))
      go_ret2
      exact ⟨_, rfl, Own.nil _ _, Below.refl _ _⟩
  · have ho : manyOut l cs = ([], wrg l) := by rw [manyOut, if_neg h]
    rw [ho]
    generalize wrg l = z at *
    generalize l.length = n at *
    generalize cs.length = ni at *
    have b0 : (z != 0) = true := by simpa using h
    clear hA T ho hAi h3
    go_enter Tryd.func35, Tryd.ntmps35
    go_wp2_with (go_at_call 64; refine h1.mono ?_; rintro e w1 ⟨rfl, rfl⟩)
    go_ret2
    exact ⟨_, rfl, Own.nil _ _, Below.refl _ _⟩
theorem Many_hs {l : List (List UInt8)} (h : Tree.Hs l) (hl : l.length ≤ 4096) (cs : List Int) (hok : OkI l.length cs) (a ai : Option Addr) (cap capi : Nat) (w : World) (hlc : l.length ≤ cap) (hc : cap ≤ 9223372036854775807) (hA : At w a l) (T : Tabs w) (hil : cs.length ≤ capi) (hic : capi ≤ 9223372036854775807) (hAi : AtI w ai cs) :
    Calls Tryd.prog 35 #[.slice a l.length cap, .slice ai cs.length capi] w (Out2 w (Tree.many (toN cs) 0 l, 0)) := by
  have hw : wrg l = 0 := by
    rw [wrg, if_neg (by omega), if_pos]
    rw [List.all_eq_true]
    intro x hx
    simpa using h x hx
  have := Many_any l cs a ai cap capi w hlc hc hA T hil hic hAi
  rwa [manyOut, if_pos hw, if_pos hok] at this
end Go.Proofs.YtejdecfpegpgcaaDoor

namespace Go.Proofs.YtejdecfpegpgcaaDoor.Tree
/-- the path, each hash with its side -/
def zpF : Nat → Nat → List T → List (Bool × T)
  | 0, _, _ => []
  | f + 1, m, l => if l.length < 2 then [] else
    if m < sp l.length then zpF f m (l.take (sp l.length)) ++ [(true, root (l.drop (sp l.length)))] else zpF f (m - sp l.length) (l.drop (sp l.length)) ++ [(false, root (l.take (sp l.length)))]
def zp (m : Nat) (l : List T) : List (Bool × T) := zpF l.length m l
theorem zpF_eq : ∀ (f g m : Nat) (l : List T), l.length ≤ f → l.length ≤ g → zpF f m l = zpF g m l
  | 0, 0, _, _, _, _ => rfl
  | 0, g + 1, m, l, h, _ => by rw [zpF, zpF, if_pos (by omega)]
  | f + 1, 0, m, l, _, h => by rw [zpF, zpF, if_pos (by omega)]
  | f + 1, g + 1, m, l, h1, h2 => by
    rw [zpF, zpF]
    by_cases h : l.length < 2
    · rw [if_pos h, if_pos h]
    · have a := sp_lt (n := l.length) (by omega)
      have b := sp_pos (n := l.length) (by omega)
      rw [if_neg h, if_neg h, zpF_eq f g _ _ (by simp; omega) (by simp; omega), zpF_eq f g _ (l.drop _) (by simp; omega) (by simp; omega)]
theorem zp_small {m : Nat} {l : List T} (h : l.length < 2) : zp m l = [] := by
  rw [zp, zpF_eq _ 1 _ _ (Nat.le_refl _) (by omega), zpF, if_pos h]
theorem zp_cut {m : Nat} {l : List T} (h : 2 ≤ l.length) : zp m l = if m < sp l.length then zp m (l.take (sp l.length)) ++ [(true, root (l.drop (sp l.length)))] else zp (m - sp l.length) (l.drop (sp l.length)) ++ [(false, root (l.take (sp l.length)))] := by
  have a := sp_lt h
  have b := sp_pos h
  have e : zp m l = zpF (l.length - 1 + 1) m l := zpF_eq _ _ _ _ (by omega) (by omega)
  rw [e, zpF, if_neg (by omega), zp, zp, zpF_eq (l.length - 1) _ _ (l.take _) (by simp; omega) (Nat.le_refl _), zpF_eq (l.length - 1) _ _ (l.drop _) (by simp; omega) (Nat.le_refl _)]
theorem path_zp : ∀ (f m : Nat) (l : List T), l.length ≤ f → path m l = (zp m l).map (·.2)
  | 0, m, l, h => by rw [path_small (by omega), zp_small (by omega)]; rfl
  | f + 1, m, l, h => by
    by_cases h2 : l.length < 2
    · rw [path_small h2, zp_small h2]; rfl
    · have a := sp_lt (n := l.length) (by omega)
      have b := sp_pos (n := l.length) (by omega)
      rw [path_cut (by omega), zp_cut (by omega)]
      split
      · rw [path_zp f m _ (by simp; omega)]; simp
      · rw [path_zp f _ (l.drop _) (by simp; omega)]; simp
/-- going up -/
def up (h : T) (zs : List (Bool × T)) : T := zs.foldl (fun h z => if z.1 then nd h z.2 else nd z.2 h) h
theorem up_step (h : T) (zs : List (Bool × T)) (z : Bool × T) : up h (zs ++ [z]) = if z.1 then nd (up h zs) z.2 else nd z.2 (up h zs) := by
  simp [up]
theorem up_root : ∀ (f m : Nat) (l : List T) (h : m < l.length), l.length ≤ f → up l[m] (zp m l) = root l
  | 0, m, l, h, hf => by omega
  | f + 1, m, l, h, hf => by
    by_cases h2 : l.length < 2
    · have h1 : l.length = 1 := by omega
      obtain ⟨a, rfl⟩ := List.length_eq_one_iff.1 h1
      have : m = 0 := by simp at h; omega
      subst this
      rw [zp_small h2]; rfl
    · have a := sp_lt (n := l.length) (by omega)
      have b := sp_pos (n := l.length) (by omega)
      rw [zp_cut (by omega), root_cut (l := l) (by omega)]
      by_cases hm : m < sp l.length
      · rw [if_pos hm, up_step]
        have := up_root f m (l.take (sp l.length)) (by simp; omega) (by simp; omega)
        rw [List.getElem_take] at this
        rw [this]; rfl
      · rw [if_neg hm, up_step]
        have := up_root f (m - sp l.length) (l.drop (sp l.length)) (by simp; omega) (by simp; omega)
        rw [List.getElem_drop] at this
        have e : sp l.length + (m - sp l.length) = m := by omega
        simp only [e] at this
        rw [this]; rfl
def rgt (zs : List (Bool × T)) : List T := (zs.filter (·.1)).map (·.2)
def lft (zs : List (Bool × T)) : List T := ((zs.filter (fun z => !z.1)).map (·.2)).reverse
theorem many_zp : ∀ (f m b : Nat) (l : List T), l.length ≤ f → m < l.length → many [b + m] b l = lft (zp m l) ++ rgt (zp m l)
  | 0, m, b, l, hf, h => by omega
  | f + 1, m, b, l, hf, h => by
    by_cases h2 : l.length < 2
    · rw [zp_small h2, many_one (by simp) (by omega)]; rfl
    · have x := sp_lt (n := l.length) (by omega)
      have y := sp_pos (n := l.length) (by omega)
      rw [zp_cut (by omega), many_cut (by simp) (by omega)]
      by_cases hm : m < sp l.length
      · have ih := many_zp f m b (l.take (sp l.length)) (by simp; omega) (by simp; omega)
        rw [if_pos hm, List.filter_cons_of_pos (by simp; omega), List.filter_nil, List.filter_cons_of_neg (by simp; omega), List.filter_nil, ih, many_none (by simp; omega)]
        simp [lft, rgt]
      · have ih := many_zp f (m - sp l.length) (b + sp l.length) (l.drop (sp l.length)) (by simp; omega) (by simp; omega)
        rw [show b + sp l.length + (m - sp l.length) = b + m from by omega] at ih
        rw [if_neg hm, List.filter_cons_of_neg (by simp; omega), List.filter_nil, List.filter_cons_of_pos (by simp; omega), List.filter_nil, ih, many_none (by simp; omega)]
        simp [lft, rgt]
theorem lr_len (zs : List (Bool × T)) : (lft zs ++ rgt zs).length = zs.length := by
  induction zs with
  | nil => rfl
  | cons z zs ih =>
    obtain ⟨b, t⟩ := z
    cases b <;> simp [lft, rgt] at * <;> omega
/-- how many digits -/
def dg (x : Nat) : Nat := if x = 0 then 0 else x.log2 + 1
theorem dg_le {x L : Nat} (h : x < 2 ^ L) : dg x ≤ L := by
  unfold dg
  split
  · omega
  · rename_i h0
    have := (Nat.log2_lt h0).2 h
    omega
theorem dg_half {x : Nat} (h : 0 < x) : dg x = dg (x / 2) + 1 := by
  unfold dg
  rw [if_neg (by omega)]
  rw [Nat.log2_def]
  by_cases h2 : 2 ≤ x
  · rw [if_pos h2, if_neg (by omega)]
  · rw [if_neg h2, if_pos (by omega)]
theorem zp_dg : ∀ (f m : Nat) (l : List T), l.length ≤ f → (zp m l).length ≤ dg (l.length - 1)
  | 0, m, l, h => by rw [zp_small (by omega)]; simp
  | f + 1, m, l, h => by
    by_cases h2 : l.length < 2
    · rw [zp_small h2]; simp
    · have a := sp_lt (n := l.length) (by omega)
      have b := sp_pos (n := l.length) (by omega)
      have c := sp_ge (n := l.length) (by omega)
      have d := sp_eq (n := l.length) (by omega)
      have e : dg (l.length - 1) = (l.length - 1).log2 + 1 := by unfold dg; rw [if_neg (by omega)]
      rw [zp_cut (by omega), e]
      split
      · have ih := zp_dg f m (l.take (sp l.length)) (by simp; omega)
        have : dg ((l.take (sp l.length)).length - 1) ≤ (l.length - 1).log2 := dg_le (by rw [List.length_take, ← d]; omega)
        rw [List.length_append, List.length_singleton]; omega
      · have ih := zp_dg f (m - sp l.length) (l.drop (sp l.length)) (by simp; omega)
        have : dg ((l.drop (sp l.length)).length - 1) ≤ (l.length - 1).log2 := dg_le (by rw [List.length_drop, ← d]; omega)
        rw [List.length_append, List.length_singleton]; omega
end Go.Proofs.YtejdecfpegpgcaaDoor.Tree
