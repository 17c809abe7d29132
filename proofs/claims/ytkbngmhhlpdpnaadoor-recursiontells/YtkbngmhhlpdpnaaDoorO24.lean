import Derived.Test.YtkbngmhhlpdpnaaDoorO16
import Derived.Test.YtkbngmhhlpdpnaaDoorO23
import Derived.Deep.RegionLaw
namespace Go.Proofs.YtkbngmhhlpdpnaaDoor
open Go.RowKit
theorem append_zero (w : World) (x : Value) (hs : Src Tryd.prog 1 22 x 0 [] w) :
    (Builtin.append_ #[22, 22] 22 #[.slice none 0 0, x]).run Tryd.prog w = .ok (.slice none 0 0) w := by
  obtain ⟨i0, hi, hz0, hz1, hz2⟩ := info_parts infoS
  have hc := hs.cells
  rw [← hz1] at hc
  simp [Builtin.append_, run_underlying Tryd.underlying22, sizeOf, typeInfo, hi, hs.len, hc]
theorem svs_one {L : List (List UInt8)} {v : Value} (h : v ∈ svs L) : v.oneCell' = true := by
  simp only [svs, List.mem_map] at h
  obtain ⟨n, _, rfl⟩ := h
  rfl
/-- append(l, m...) -/
theorem append_list (w : World) (base base2 : Nat) (v v2 : Value) (L L2 : List (List UInt8)) (hown : Own w base v (svs L)) (hown2 : Own w base2 v2 (svs L2)) (hlen : L.length + L2.length ≤ 2000000) (hbase : base ≤ w.heap.size) :
    ∃ v' w', (Builtin.append_ #[22, 22] 22 #[v, v2]).run Tryd.prog w = .ok v' w' ∧ Own w' base v' (svs (L ++ L2)) ∧ Below base w w' := by
  obtain ⟨i0, hi, hz0, hz1, hz2⟩ := info_parts infoS
  have hsrc : Src Tryd.prog 1 22 v2 L2.length (svs L2) w := by
    rcases hown2 with ⟨rfl, h⟩ | ⟨g, cap, rfl, h1, h2, h3, h4, h5, h6⟩
    · obtain rfl : L2 = [] := by simpa [svs] using h
      exact Src.ofNil w Tryd.underlying22 0
    · rw [svs_length]
      exact Src.ofSlice w Tryd.underlying22 ⟨g, 0, none⟩ L2.length cap (svs L2) (by rw [svs_length, Nat.mul_one]) (fun j u hj => by rw [Addr.add_mid]; exact h4 j u hj) (fun u hu => svs_one hu)
  by_cases h0 : v = .slice none 0 0 ∧ L2.length = 0
  · obtain ⟨rfl, h0⟩ := h0
    obtain rfl : L2 = [] := List.length_eq_zero_iff.1 h0
    have hL : L = [] := by
      rcases hown with ⟨_, h⟩ | ⟨g, cap, h, _⟩
      · simpa [svs] using h
      · cases h
    subst hL
    exact ⟨_, w, append_zero w v2 hsrc, Own.nil _ _, Below.refl _ _⟩
  · obtain ⟨v', w', h1, h2, h3, h4⟩ := run_append_O (P := Tryd.prog) w base 22 22 22 9 i0 (.string ⟨#[]⟩) Tryd.underlying22 hi hz0 hz1 rfl v (svs L) hown v2 L2.length (svs L2) hsrc
      (by rw [svs_length, hz2]; omega) (by rw [svs_length, maxLen]; omega) hbase (fun e => by
        have : ¬ L2.length = 0 := fun h => h0 ⟨e, h⟩
        omega)
    exact ⟨v', w', h1, by simpa [svs] using h2, Below.ofGrown h3 hown.ge hbase⟩
/-- an append whose run is known, as one step of a region that draws -/
theorem step_append_run {P : Program} {ops : Array Oper} {o : Oper} {a : Act} {w : World} {K : Act → World → Prop} {Q : Exit → Act → World → Prop} {E : Prop}
    (hg : o.guard = none) (s x : Operand) (t : TypeId) (hop : o.op = Op.call { callee := Callee.builtin Builtin.append, args := #[s, x], argTypes := #[t, t] })
    (v1 v2 v' : Value) (w' : World) (hs : a.eval s = v1) (hx : a.eval x = v2) (hrun : (Builtin.append_ #[t, t] o.type #[v1, v2]).run P w = .ok v' w') (hK : K (a.put o.dst v') w') :
    if Region.wanted o (yielded ops a.tmps) = true then Oper.wp P o a w K Q else E := by
  have hw : Region.wanted o (yielded ops a.tmps) = true := by simp [Region.wanted, hg]
  rw [if_pos hw]
  unfold Oper.wp
  simp [execOp, hop, resolve, invoke, builtin, hs, hx, hrun, Result.andThen]
  exact hK
set_option maxRecDepth 100000 in
set_option maxHeartbeats 400000 in
theorem many1_none (l : List (List UInt8)) (ai a : Option Addr) (capi cap c : Nat) (b : Int) (w : World) (hl : l.length ≤ cap) (hc : cap ≤ 9223372036854775807) (hA : At w a l) (T : Tabs w) :
    Calls Tryd.prog 82 #[.slice ai 0 capi, .slice a l.length cap, .int .i64 b, .pointer (some ⟨c, 0, none⟩)] w (Out w [Tree.root l]) := by
  have h2 := root_any l a cap w hl hc hA T
  generalize Tree.root l = r at *
  generalize l.length = n at *
  go_enter Tryd.func82, Tryd.ntmps82
  go_wp2_with (go_at_call 65; refine h2.mono ?_; rintro e w1 ⟨rfl, hw1⟩; rw [show sv r = Value.string ⟨r.toArray⟩ from rfl])
  go_ret
  exact ⟨_, rfl, own_one w1 w.heap.size r hw1.size, hw1.alloc hw1.size _⟩
set_option maxRecDepth 100000 in
set_option maxHeartbeats 400000 in
theorem many1_one (ai a : Option Addr) (ni capi cap c : Nat) (b : Int) (w : World) (hi : 0 < ni) :
    Calls Tryd.prog 82 #[.slice ai ni capi, .slice a 1 cap, .int .i64 b, .pointer (some ⟨c, 0, none⟩)] w (Out w []) := by
  have n0 : ((ni : Int) == 0) = false := by simp; omega
  go_enter Tryd.func82, Tryd.ntmps82
  go_wp2
  go_ret
  exact ⟨_, rfl, Own.nil _ _, Below.refl _ _⟩
set_option maxRecDepth 100000 in
set_option maxHeartbeats 2000000 in
theorem many1_any : ∀ (f : Nat) (l : List (List UInt8)) (is : List Nat) (b : Nat) (ai a : Option Addr) (capi cap c : Nat) (w : World), l.length ≤ f → l.length ≤ 1000000 → b ≤ 1000000 → 1 ≤ l.length → l.length ≤ cap → cap ≤ 9223372036854775807 → At w a l → Tabs w →
    is.length ≤ capi → capi ≤ 9223372036854775807 → AtI w ai (ix is) → is.Pairwise (· < ·) → b + l.length ≤ 1000000 →
    w.cell? ⟨c, 0, none⟩ = some (.func (.func 82) #[] #[.pointer (some ⟨c, 0, none⟩)]) →
    Calls Tryd.prog 82 #[.slice ai is.length capi, .slice a l.length cap, .int .i64 b, .pointer (some ⟨c, 0, none⟩)] w (Out w (Tree.many is b l)) := by
  intro f
  induction f with
  | zero => intro l is b ai a capi cap c w hf _ _ h1; omega
  | succ f ih =>
    intro l is b ai a capi cap c w hf hM hb hl1 hl hc hA T hil hic hAi hso hbl hcl
    by_cases hi : is = []
    · subst hi
      rw [Tree.many_none hl1]
      exact many1_none l ai a capi cap c b w hl hc hA T
    · have hi0 : 0 < is.length := List.length_pos_iff.2 hi
      by_cases h1 : l.length = 1
      · rw [Tree.many_one hi h1, h1]
        exact many1_one ai a is.length capi cap c b w hi0
      · obtain ⟨n, hn⟩ : ∃ n, l.length = n := ⟨_, rfl⟩
        have h2 : 2 ≤ n := by omega
        obtain ⟨x, rfl⟩ := hA.pos (by rw [hn]; omega)
        obtain ⟨xi, rfl⟩ := hAi.pos (by rw [ix_len]; omega)
        have e := hid (Tree.many_cut (b := b) hi (l := l) (by rw [hn]; exact h2))
        rw [hn] at e hf hl hM h1 hbl ⊢
        have k1 := Tree.sp_lt h2
        have k2 := Tree.sp_pos h2
        have hs : spI (n : Int) = ((Tree.sp n : Nat) : Int) := rfl
        generalize Tree.sp n = k at *
        have l1 : (l.take k).length = k := by rw [List.length_take, hn]; omega
        have l2 : (l.drop k).length = n - k := by rw [List.length_drop, hn]
        have n0 : ((is.length : Int) == 0) = false := by simp; omega
        have n2 : ((n : Int) == 1) = false := by simp; omega
        have A1 := hid (hA.take k)
        have A2 := hid (hA.drop k)
        obtain ⟨q, hq⟩ : ∃ q : Nat, b + k = q := ⟨_, rfl⟩
        have ebk : (b : Int) + (k : Int) = (q : Int) := by omega
        have hwq : IntKind.i64.wrap (q : Int) = (q : Int) := wrap_small _ (by omega) (by omega)
        rw [hq] at e
        have cB := below_any is q (some xi) capi
        have cC := cutI_any is q xi capi hil
        have hso1 : (is.filter (· < q)).Pairwise (· < ·) := hso.filter _
        have hso2 : (is.filter (q ≤ ·)).Pairwise (· < ·) := hso.filter _
        have c1 := fun w' (h : At w' (some x) (l.take k)) hT (g : AtI w' (some xi) (ix (is.filter (· < q)))) => ih (l.take k) (is.filter (· < q)) b (some xi) (some x) (is.filter (· < q)).length k c w' (by omega) (by omega) hb (by omega) (by omega) (by omega) h hT (Nat.le_refl _) (by have := List.length_filter_le (fun i => decide (i < q)) is; omega) g hso1 (by omega)
        have c2 := fun w' (y : Addr) (h : At w' (some (x.add k)) (l.drop k)) hT (g : AtI w' (some y) (ix (is.filter (q ≤ ·)))) => ih (l.drop k) (is.filter (q ≤ ·)) q (some y) (some (x.add k)) (is.filter (q ≤ ·)).length (n - k) c w' (by omega) (by omega) (by omega) (by omega) (by omega) (by omega) h hT (Nat.le_refl _) (by have := List.length_filter_le (fun i => decide (q ≤ i)) is; omega) g hso2 (by omega)
        rw [l1] at c1
        rw [l2] at c2
        have m1 := Tree.many_length _ (is.filter (· < q)) b (l.take k) (Nat.le_refl _) (by omega)
        have m2 := Tree.many_length _ (is.filter (q ≤ ·)) q (l.drop k) (Nat.le_refl _) (by omega)
        generalize Tree.many (is.filter (· < q)) b (l.take k) = L1 at *
        generalize Tree.many (is.filter (q ≤ ·)) q (l.drop k) = L2 at *
        generalize is.filter (· < q) = F1 at *
        generalize is.filter (q ≤ ·) = F2 at *
        generalize Tree.cnt q is = t at *
        generalize F1.length = f1 at *
        generalize F2.length = f2 at *
        have HT := hid T
        have HI := hid hAi
        have HQ := hid hq
        clear hA ih hn hAi T hq
        go_enter Tryd.func82, Tryd.ntmps82
        go_wp2_with (first
          | (go_at_call 38; refine (split_any (n : Int) (by omega) (by omega) _).mono ?_; rintro e w0 ⟨rfl, rfl⟩; rw [hs])
          | (go_at_call 78; refine (cut_any x n cap k k1 hl _).mono ?_; rintro e wc ⟨rfl, hbc, hhc⟩; have hcl0 := cell_below hcl hbc)
          | (go_at_call 84; refine (cB _ (by omega) (HI.out.heap hhc)).mono ?_; rintro e wb ⟨rfl, rfl⟩)
          | (go_at_call 83; refine (cC _ (HI.out.heap hhc) hso).mono ?_; rintro e wi ⟨y, rfl, hI1, hI2, hbi, hhi⟩; have hcl1 := cell_below hcl0 hbi))
        have Bc := hid ((hbc.trans (hbi.mono hbc.size)).drew)
        have A1c := hid ((A1.out.heap hhc).heap (w' := wi.drew) hhi)
        have A2c := hid ((A2.out.heap hhc).heap (w' := wi.drew) hhi)
        have I1c := hid (hI1.heap (w' := wi.drew) rfl)
        have I2c := hid (hI2.heap (w' := wi.drew) rfl)
        have Tc := hid (HT.out.below Bc.out HT.out.lt)
        have hcl2 : wi.drew.cell? ⟨c, 0, none⟩ = some (.func (.func 82) #[] #[.pointer (some ⟨c, 0, none⟩)]) := hcl1
        clear hbc hhc hbi hhi hI1 hI2 A1 A2 HT HI hcl hcl0 hcl1 cB cC
        go_region_law (first
          | (refine step_append_run rfl _ _ 22 rfl v1 v2 v3 w3 rfl rfl hap ?_)
          | (go_simp; go_at_call 82; (with_reducible refine (c1 _ A1c.out Tc.out I1c.out hcl2).mono ?_); rintro e w1 ⟨v1, rfl, hO1, hw1⟩; have hcl3 := cell_below hcl2 hw1; dsimp only)
          | (go_simp; go_at_call 82; (with_reducible refine (c2 _ y (A2c.out.below hw1 (Nat.le_refl _)) (Tc.out.below hw1 Tc.out.lt) (I2c.out.below hw1 (Nat.le_refl _)) hcl3).mono ?_); rintro e w2 ⟨v2, rfl, hO2, hw2⟩; obtain ⟨v3, w3, hap, hO3, hb3⟩ := append_list w2 wi.drew.heap.size w1.heap.size v1 v2 L1 L2 (hO1.below hw2 (Nat.le_refl _)) hO2 (by omega) (Nat.le_trans hw1.size hw2.size); dsimp only))
        all_goals
          have s1 := hw1.size
          have s2 := hw2.size
          have s3 := Bc.out.size
          have Bf := hid (((Bc.out.trans (hw1.mono s3)).trans (hw2.mono (Nat.le_trans s3 s1))).trans (hb3.mono s3))
          have Of := hid (hO3.mono s3)
          clear hw1 hw2 hb3 s1 s2 s3 Bc hO3
          go_wp2
          go_ret
          exact ⟨_, rfl, by rw [e.out]; exact Of.out, Bf.out⟩
end Go.Proofs.YtkbngmhhlpdpnaaDoor
