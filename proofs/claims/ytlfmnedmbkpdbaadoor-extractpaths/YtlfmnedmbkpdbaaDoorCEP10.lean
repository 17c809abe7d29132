import Derived.Test.YtlfmnedmbkpdbaaDoorCFS1
namespace Go.Proofs.YtlfmnedmbkpdbaaDoor
open Go.RowKit
theorem texts16 (w : World) (a : List UInt8) (t : TypeId) : Texts (w.alloc (.cells #[sv a] t)) w.heap.size 0 [a] := fun j p h => by
  rw [cell_of_row _ _ _ _ _ _ (heap_alloc_new w _), Nat.zero_add]
  match j, h with
  | 0, h => obtain rfl := Option.some.inj h; rfl
theorem sum_one (t : List UInt8) (ht : t.length ≤ 1000000000) (w : World) (T : Tabs w) : Calls Tryd.prog 27 #[.slice (some ⟨w.heap.size, 0, none⟩) 1 1] (w.alloc (.cells #[sv t] 9)) fun e w' => e = .returned (sv (Sha.sha t)) ∧ Below w.heap.size w w' := by
  have al := (Below.refl w.heap.size w).alloc (Nat.le_refl _) (.cells #[sv t] 9)
  have h := sum_any w.heap.size 0 1 [t] (by unfold total; simp; omega) (by simp [maxLen]) (w.alloc (.cells #[sv t] 9)) (T.below al T.lt) (by rw [size_alloc]; omega) (texts16 w t _)
  refine h.mono ?_
  rintro e w' ⟨rfl, hb⟩
  refine ⟨by simp, al.trans (hb.mono (by rw [size_alloc]; omega))⟩
theorem sum_at (t : List UInt8) (ht : t.length ≤ 1000000000) (w : World) (n : Nat) (hn : w.heap.size = n) (T : Tabs w) : Calls Tryd.prog 27 #[.slice (some ⟨n, 0, none⟩) 1 1] (w.alloc (.cells #[sv t] 9)) fun e w' => e = .returned (sv (Sha.sha t)) ∧ Below n w w' := by
  subst hn
  exact sum_one t ht w T
theorem size_set6 (w : World) (a : Addr) (v : Value) : (w.setCell a v).heap.size = w.heap.size := by simp [World.setCell]
theorem nt_val (x h : List UInt8) : Value.string ({ data := #[1] } ++ { data := x.toArray } ++ { data := h.toArray }) = sv (Tree.nt x h) := by
  unfold sv Tree.nt
  congr 1
set_option maxRecDepth 100000 in
set_option maxHeartbeats 2000000 in
theorem climb_any (fk : List Tree.Fork) (r : List UInt8) (hs : List (List UInt8)) (vf vb : Value) (B : Nat) (w : World) (F : Fks w B vf fk) (hb : Lv w vb hs) (hl : hs.length = fk.length) (hr : r.length = 32) (H : Tree.Hs hs) (hn : fk.length ≤ 1000) (T : Tabs w) :
    Calls Tryd.prog 41 #[vf, sv r, vb] w fun e w' => ∃ v, e = .returned v ∧ Lv w' v (Tree.txs r (fk.map Tree.fkR).reverse hs).reverse ∧ Below w.heap.size w w' := by
  obtain ⟨af, cf, rfl, _, _⟩ := F.1.shape
  obtain ⟨ab, cb, rfl, b1, b2, b3⟩ := hb
  obtain ⟨ds, hds⟩ : ∃ ds, Hid ((fk.map Tree.fkR).reverse = ds) := ⟨_, rfl⟩
  have hdl : Hid (ds.length = fk.length) := by unfold Hid; rw [← hds.out]; simp
  have hmk := make_texts w fk.length (by omega)
  have al := (Below.refl w.heap.size w).alloc (Nat.le_refl _) (.cells (svs (List.replicate fk.length [])).toArray 9)
  have R0 : Hid (Row (w.alloc (.cells (svs (List.replicate fk.length [])).toArray 9)) w.heap.size (tk r ds hs fk.length 0)) := by rw [tk_zero]; exact heap_alloc_new w _
  have B0 := hid al
  obtain ⟨x0, hx0⟩ : ∃ x0, Hid (Tree.upd r (ds.take 0) (hs.take 0) = x0) := ⟨_, rfl⟩
  have e0 : r = x0 := by rw [← hx0.out]; rfl
  have HF := hid F
  have HB3 := hid b3
  have HT := hid T
  have HHS := hid H
  have HR := hid hr
  have HL := hid hl
  rw [hds.out]
  clear F b3 T H hr al
  rw [svS r]
  rw [hl] at b1 ⊢
  obtain ⟨n, hnn⟩ : ∃ n, Hid (fk.length = n) := ⟨_, rfl⟩
  rw [hnn.out] at hmk R0 B0 hn b1 hdl HL ⊢
  generalize w.alloc (.cells (svs (List.replicate n [])).toArray 9) = w0 at *
  clear hl
  go_enter Tryd.func41, Tryd.ntmps41
  go_wp2
  clear hmk
  go_loopw [18, 8] (fun i x w' => ∃ (k : Nat) (y : List UInt8), i = .int .i64 (k : Int) ∧ k ≤ n ∧ x = .string ⟨y.toArray⟩ ∧ Hid (Tree.upd r (ds.take k) (hs.take k) = y) ∧ Hid (Row w' w.heap.size (tk r ds hs n k)) ∧ Hid (Below w.heap.size w w')) (fun i _ _ => n - (intOf i).toNat)
  case atStart => exact ⟨0, r, rfl, by omega, rfl, hid rfl, R0, B0⟩
  case round =>
    clear R0 B0 hx0 e0
    obtain ⟨k, y, rfl, hk, rfl, hy, hR, hB⟩ := hrel
    by_cases hkn : k < n
    · have c0 : (k : Int) < (n : Int) := by omega
      obtain ⟨u, hu⟩ : ∃ u, Hid (n - 1 - k = u) := ⟨_, rfl⟩
      have hu2 := hu.out
      have l1 := HL.out
      have l2 := hnn.out
      have l3 := hdl.out
      obtain ⟨h, hh⟩ : ∃ h, Hid (hs[k]? = some h) := ⟨_, List.getElem?_eq_getElem (by omega)⟩
      obtain ⟨f, hf⟩ : ∃ f, Hid (fk[u]? = some f) := ⟨_, List.getElem?_eq_getElem (by omega)⟩
      obtain ⟨z, rfl, _, hcell⟩ := (HB3.out.below hB.out (Nat.le_refl _)) k h hh.out
      have hd : Hid (ds[k]? = some (Tree.fkR f)) := by
        unfold Hid
        rw [← hds.out, List.getElem?_reverse (by simp; omega), List.getElem?_map]
        simp only [List.length_map]
        rw [show fk.length - 1 - k = u by omega, hf.out]
        rfl
      have h32 : h.length = 32 := HHS.out h (List.mem_of_getElem? hh.out)
      have y32 : y.length = 32 := by rw [← hy.out]; exact Tree.upd_length _ _ _ HR.out (HHS.out.take k)
      obtain ⟨gf, cf', ev, hgf, hgl⟩ := (HF.out.1.kept hB.out.size (fun g hg => hB.out.block g (HF.out.1.lt g hg))).cell (fvs_get fk u f hf.out).2.2.2
      rw [hnn.out] at ev
      injection ev with ev1 ev2 ev3
      subst ev1 ev3
      have hgne : gf ≠ w.heap.size := by
        have h1 := HF.out.1.lt gf (by rw [hnn.out]; rfl)
        omega
      have m1 : (n : Int) - 1 = ((n - 1 : Nat) : Int) := by omega
      have m2 : (n : Int) - 1 - (k : Int) = (u : Int) := by omega
      have m3 : (u : Int) < (n : Int) := by omega
      have m4 : u ≤ 1000 := by omega
      clear m1
      have t0 := hR.out.cell (List.getElem?_eq_getElem (show u < (tk r ds hs n k).length by rw [tk_len l3 l1 hk]; omega))
      have f0 := hR.out.free (show u < (tk r ds hs n k).length by rw [tk_len l3 l1 hk]; omega)
      generalize (tk r ds hs n k)[u]'(by rw [tk_len l3 l1 hk]; omega) = oldv at t0
      rw [svS] at t0 hcell
      have c1 : (wr.setCell ⟨w.heap.size, u, none⟩ (.string ({ data := #[1] } ++ { data := y.toArray } ++ { data := h.toArray }))).cell? ⟨gf, u * 4 + 3, none⟩ = some (.bool (Tree.fkR f)) := by
        rw [Nat.mul_comm u 4, World.cell?_of_block (w := wr) (Below.heap_setCell wr _ _ gf hgne)]; exact hgf
      have R1 : Row (wr.setCell ⟨w.heap.size, u, none⟩ (.string ({ data := #[1] } ++ { data := y.toArray } ++ { data := h.toArray }))) w.heap.size ((tk r ds hs n k).set u (Tree.nt y h)) := by
        have h2 := hR.out.set u (Tree.nt y h)
        rw [← nt_val y h] at h2
        exact h2
      have t1 := R1.cell (j := u) (p := Tree.nt y h) (List.getElem?_set_self (by rw [tk_len l3 l1 hk]; omega))
      rw [← nt_val y h] at t1
      have f1 := R1.free (show u < ((tk r ds hs n k).set u (Tree.nt y h)).length by rw [List.length_set, tk_len l3 l1 hk]; omega)
      clear R1 hgf
      by_cases hq : Tree.fkR f = true
      · rw [hq] at c1
        have hR' : Row ((wr.setCell ⟨w.heap.size, u, none⟩ (.string ({ data := #[1] } ++ { data := y.toArray } ++ { data := h.toArray }))).setCell ⟨w.heap.size, u, none⟩ (.string ({ data := #[1] } ++ { data := h.toArray } ++ { data := y.toArray }))) w.heap.size (tk r ds hs n (k + 1)) := by
          have h1 := (tk_next hkn l3 l1 hd.out hh.out HR.out HHS.out).1
          rw [hq, hy.out, hu2] at h1
          rw [← h1]
          have h2 := (hR.out.set u (Tree.nt y h)).set u (Tree.nt h y)
          rw [List.set_set, ← nt_val y h, ← nt_val h y] at h2
          exact h2
        have hy' : Hid (Tree.upd r (ds.take (k + 1)) (hs.take (k + 1)) = Sha.sha (Tree.nt h y)) := by
          have h1 := (tk_next hkn l3 l1 hd.out hh.out HR.out HHS.out).2
          rw [hq, hy.out] at h1
          exact h1
        have hlen' := tk_len (r := r) l3 l1 (show k + 1 ≤ n by omega)
        have c2 : ((wr.setCell ⟨w.heap.size, u, none⟩ (.string ({ data := #[1] } ++ { data := y.toArray } ++ { data := h.toArray }))).setCell ⟨w.heap.size, u, none⟩ (.string ({ data := #[1] } ++ { data := h.toArray } ++ { data := y.toArray }))).cell? ⟨w.heap.size, u, none⟩ = some (.string ({ data := #[1] } ++ { data := h.toArray } ++ { data := y.toArray })) := by
          have h1 := hR'.cell (j := u) (p := Tree.nt h y) (by
            have h2 := (tk_next hkn l3 l1 hd.out hh.out HR.out HHS.out).1
            rw [hq, hy.out, hu2] at h2
            rw [← h2, List.getElem?_set_self (by rw [tk_len l3 l1 hk]; omega)]
            rfl)
          rw [h1, nt_val]
        have hB' : Below w.heap.size w ((wr.setCell ⟨w.heap.size, u, none⟩ (.string ({ data := #[1] } ++ { data := y.toArray } ++ { data := h.toArray }))).setCell ⟨w.heap.size, u, none⟩ (.string ({ data := #[1] } ++ { data := h.toArray } ++ { data := y.toArray }))) := (hB.out.setCell (p := ⟨w.heap.size, u, none⟩) (Nat.le_refl _) _).setCell (p := ⟨w.heap.size, u, none⟩) (Nat.le_refl _) _
        have i1 := sum_at (Tree.nt h y) (by simp [Tree.nt]; omega) ((wr.setCell ⟨w.heap.size, u, none⟩ (.string ({ data := #[1] } ++ { data := y.toArray } ++ { data := h.toArray }))).setCell ⟨w.heap.size, u, none⟩ (.string ({ data := #[1] } ++ { data := h.toArray } ++ { data := y.toArray }))) wr.heap.size (by rw [size_set6, size_set6]) (HT.out.below hB' HT.out.lt)
        rw [← nt_val h y, svS] at i1
        have HR' := hid hR'
        have hB0 := hB.out.size
        have hR0 := hR.out.lt
        have HB' := hid hB'
        have s1 : ¬ 9223372036854775807 < 1 + y.length := by omega
        have s2 : ¬ 9223372036854775807 < 1 + y.length + h.length := by omega
        have s3 : ¬ 9223372036854775807 < 1 + h.length := by omega
        have s4 : ¬ 9223372036854775807 < 1 + h.length + y.length := by omega
        clear hR hB hy hh hf hd hR' hB' hq hu2 l1 l2 l3 hlen' y32 h32
        go_wp2_with (go_at_call 27; fail)
        with_reducible refine i1.mono ?_
        rintro e w3 ⟨rfl, b3'⟩
        have HR3 := hid (HR'.out.below b3' hR0)
        have HB3' := hid (HB'.out.trans (b3'.mono hB0))
        clear i1 b3' HR' HB'
        go_wp2
        exact ⟨⟨k + 1, Sha.sha (Tree.nt h y), by go_num, by omega, rfl, hy', HR3, HB3'⟩, by simp [intOf]; omega⟩
      · replace hq : Tree.fkR f = false := by simpa using hq
        rw [hq] at c1
        have hR' : Row (wr.setCell ⟨w.heap.size, u, none⟩ (.string ({ data := #[1] } ++ { data := y.toArray } ++ { data := h.toArray }))) w.heap.size (tk r ds hs n (k + 1)) := by
          have h1 := (tk_next hkn l3 l1 hd.out hh.out HR.out HHS.out).1
          rw [hq, hy.out, hu2] at h1
          rw [← h1]
          have h2 := hR.out.set u (Tree.nt y h)
          rw [← nt_val y h] at h2
          exact h2
        have hy' : Hid (Tree.upd r (ds.take (k + 1)) (hs.take (k + 1)) = Sha.sha (Tree.nt y h)) := by
          have h1 := (tk_next hkn l3 l1 hd.out hh.out HR.out HHS.out).2
          rw [hq, hy.out] at h1
          exact h1
        have hlen' := tk_len (r := r) l3 l1 (show k + 1 ≤ n by omega)
        have c2 : (wr.setCell ⟨w.heap.size, u, none⟩ (.string ({ data := #[1] } ++ { data := y.toArray } ++ { data := h.toArray }))).cell? ⟨w.heap.size, u, none⟩ = some (.string ({ data := #[1] } ++ { data := y.toArray } ++ { data := h.toArray })) := by
          have h1 := hR'.cell (j := u) (p := Tree.nt y h) (by
            have h2 := (tk_next hkn l3 l1 hd.out hh.out HR.out HHS.out).1
            rw [hq, hy.out, hu2] at h2
            rw [← h2, List.getElem?_set_self (by rw [tk_len l3 l1 hk]; omega)]
            rfl)
          rw [h1, nt_val]
        have hB' : Below w.heap.size w (wr.setCell ⟨w.heap.size, u, none⟩ (.string ({ data := #[1] } ++ { data := y.toArray } ++ { data := h.toArray }))) := hB.out.setCell (p := ⟨w.heap.size, u, none⟩) (Nat.le_refl _) _
        have i1 := sum_at (Tree.nt y h) (by simp [Tree.nt]; omega) (wr.setCell ⟨w.heap.size, u, none⟩ (.string ({ data := #[1] } ++ { data := y.toArray } ++ { data := h.toArray }))) wr.heap.size (by rw [size_set6]) (HT.out.below hB' HT.out.lt)
        rw [← nt_val y h, svS] at i1
        have HR' := hid hR'
        have hB0 := hB.out.size
        have hR0 := hR.out.lt
        have HB' := hid hB'
        have s1 : ¬ 9223372036854775807 < 1 + y.length := by omega
        have s2 : ¬ 9223372036854775807 < 1 + y.length + h.length := by omega
        have s3 : ¬ 9223372036854775807 < 1 + h.length := by omega
        have s4 : ¬ 9223372036854775807 < 1 + h.length + y.length := by omega
        clear hR hB hy hh hf hd hR' hB' hq hu2 l1 l2 l3 hlen' y32 h32
        go_wp2_with (go_at_call 27; fail)
        with_reducible refine i1.mono ?_
        rintro e w3 ⟨rfl, b3'⟩
        have HR3 := hid (HR'.out.below b3' hR0)
        have HB3' := hid (HB'.out.trans (b3'.mono hB0))
        clear i1 b3' HR' HB'
        go_wp2
        exact ⟨⟨k + 1, Sha.sha (Tree.nt y h), by go_num, by omega, rfl, hy', HR3, HB3'⟩, by simp [intOf]; omega⟩
    · obtain rfl : k = n := by omega
      have c0 : ¬ (k : Int) < (k : Int) := by omega
      have R1 := hR.out
      rw [tk_all hdl.out HL.out] at R1
      have HR1 := hid R1
      have hln : (Tree.txs r ds hs).reverse.length = k := by rw [List.length_reverse, Tree.txs_length _ _ _ (by rw [hdl.out, HL.out]), hdl.out]
      have HLN := hid hln
      clear R1 hR hln
      go_wp2
      go_ret
      refine ⟨_, rfl, ⟨_, k, by rw [HLN.out]; rfl, by rw [HLN.out]; exact Nat.le_refl _, by omega, HR1.out.at⟩, hB.out⟩
end Go.Proofs.YtlfmnedmbkpdbaaDoor

namespace Go.Proofs.YtlfmnedmbkpdbaaDoor
open Go.RowKit
theorem fst2_drop {X Y : List (List UInt8)} {i : Nat} {p q : List UInt8} (h : Tree.fst2 (X.drop i) (Y.drop i) = some (p, q)) : ∃ x y, X[i]? = some x ∧ Y[i]? = some y ∧ ((x = y ∧ Tree.fst2 (X.drop (i + 1)) (Y.drop (i + 1)) = some (p, q)) ∨ (x ≠ y ∧ x = p ∧ y = q)) := by
  by_cases h1 : i < X.length
  · by_cases h2 : i < Y.length
    · rw [List.drop_eq_getElem_cons h1, List.drop_eq_getElem_cons h2, Tree.fst2] at h
      refine ⟨X[i], Y[i], List.getElem?_eq_getElem h1, List.getElem?_eq_getElem h2, ?_⟩
      split at h
      · rename_i e; exact .inl ⟨e, h⟩
      · rename_i e
        injection h with h
        injection h with h3 h4
        exact .inr ⟨e, h3, h4⟩
    · have e : Y.drop i = [] := List.drop_eq_nil_of_le (by omega)
      rw [e, List.drop_eq_getElem_cons h1] at h
      cases h
  · have e : X.drop i = [] := List.drop_eq_nil_of_le (by omega)
    rw [e] at h
    cases h
set_option maxRecDepth 100000 in
set_option maxHeartbeats 2000000 in
theorem partPaths_any (fk : List Tree.Fork) (leaf other : List UInt8) (path way : List (List UInt8)) (vf vp vw : Value) (B : Nat) (w : World) (p q : List UInt8) (F : Fks w B vf fk) (hp : Lv w vp path) (hw : Lv w vw way) (l1 : path.length = fk.length) (l2 : way.length = fk.length) (h1 : leaf.length = 32) (h2 : other.length = 32) (H1 : Tree.Hs path) (H2 : Tree.Hs way) (hn : fk.length ≤ 1000) (T : Tabs w)
    (hf : Tree.fst2 (Tree.txs leaf (fk.map Tree.fkR).reverse path).reverse (Tree.txs other (fk.map Tree.fkR).reverse way).reverse = some (p, q)) :
    Calls Tryd.prog 31 #[vf, sv leaf, vp, sv other, vw] w fun e w' => e = .panicked [{ v := prI p q, recovered := false }] ∧ Below w.heap.size w w' := by
  have i1 := climb_any fk other way vf vw B w F hw l2 h2 H2 hn T
  have i2 := fun w' (hb : Below w.heap.size w w') => climb_any fk leaf path vf vp B w' (F.below hb) (hp.below hb) l1 h1 H1 hn (T.below hb T.lt)
  have ly : (Tree.txs other (fk.map Tree.fkR).reverse way).reverse.length = (Tree.txs leaf (fk.map Tree.fkR).reverse path).reverse.length := by
    rw [List.length_reverse, List.length_reverse, Tree.txs_length _ _ _ (by simp [l2]), Tree.txs_length _ _ _ (by simp [l1])]
  obtain ⟨X, hX⟩ : ∃ X, (Tree.txs leaf (fk.map Tree.fkR).reverse path).reverse = X := ⟨_, rfl⟩
  obtain ⟨Y, hY⟩ : ∃ Y, (Tree.txs other (fk.map Tree.fkR).reverse way).reverse = Y := ⟨_, rfl⟩
  have lx : Hid (X.length ≤ 1000) := by unfold Hid; rw [← hX, List.length_reverse, Tree.txs_length _ _ _ (by simp [l1])]; simp; exact hn
  rw [hX] at i2 hf ly
  rw [hY] at i1 hf ly
  have HF := hid hf
  have HLY := hid ly
  obtain ⟨af, cf, rfl, _, _⟩ := F.1.shape
  obtain ⟨ap, cp, rfl, _⟩ := hp
  obtain ⟨aw, cw, rfl, _⟩ := hw
  clear hX hY hf ly l1 l2 h1 h2 H1 H2 F T
  rw [svS leaf] at i2 ⊢
  rw [svS other] at i1 ⊢
  generalize fk.length = nf at *
  generalize path.length = np at *
  generalize way.length = nw at *
  go_enter Tryd.func31, Tryd.ntmps31
  go_wp2_with (go_at_call 41; fail)
  refine i1.mono ?_
  rintro e w1 ⟨v1, rfl, V1, b1⟩
  have i2 := i2 w1 b1
  clear i1
  go_wp2_with (go_at_call 41; fail)
  refine i2.mono ?_
  rintro e w2 ⟨v2, rfl, V2, b2⟩
  obtain ⟨ax, cx, rfl, _, _, AX⟩ := V2
  obtain ⟨ay, cy, rfl, _, _, AY⟩ := V1.below b2
  have HX := hid AX
  have HY := hid AY
  have HB := hid (b1.trans (b2.mono b1.size))
  clear i2 b1 b2 V1 AX AY
  have ly2 := HLY.out
  obtain ⟨n, hn⟩ : ∃ n, Hid (X.length = n) := ⟨_, rfl⟩
  have hn1 : n ≤ 1000 := by rw [← hn.out]; exact lx.out
  rw [hn.out] at ly2 ⊢
  rw [ly2]
  clear ly2
  go_wp2
  go_loopw [22] (fun i w' => ∃ k : Nat, i = .int .i64 (k : Int) ∧ k ≤ n ∧ Hid (Tree.fst2 (X.drop k) (Y.drop k) = some (p, q)) ∧ Hid (Below w2.heap.size w2 w')) (fun i _ => n - (intOf i).toNat)
  case atStart => exact ⟨0, rfl, by omega, HF, hid (Below.refl _ _)⟩
  case round =>
    clear HF
    obtain ⟨k, rfl, hk, hf, hb⟩ := hrel
    obtain ⟨x, y, hx, hy, hor⟩ := fst2_drop hf.out
    have hkn : k < n := by have := (List.getElem?_eq_some_iff.1 hx).1; have := hn.out; omega
    have c0 : (k : Int) < (n : Int) := by omega
    obtain ⟨zx, rfl, _, cx'⟩ := (HX.out.below hb.out (Nat.le_refl _)) k x hx
    obtain ⟨zy, rfl, _, cy'⟩ := (HY.out.below hb.out (Nat.le_refl _)) k y hy
    rw [svS] at cx' cy'
    have HB1 := hid (HB.out.trans (hb.out.mono HB.out.size))
    rcases hor with ⟨rfl, hnx⟩ | ⟨hne, rfl, rfl⟩
    · have i4 := compare_same x wr
      rw [svS] at i4
      have hf' := hid hnx
      clear hnx hf hx hy
      go_wp2_with (go_at_call 42; fail)
      refine i4.mono ?_
      rintro e w4 ⟨rfl, rfl⟩
      go_wp2
      exact ⟨⟨k + 1, by go_num, by omega, hf', hb⟩, by simp [intOf]; omega⟩
    · have i4 := compare_diff hne wr
      rw [svS, svS] at i4
      clear hf hx hy hne
      go_wp2_with (go_at_call 42; fail)
      refine i4.mono ?_
      rintro e w4 ⟨rfl, rfl⟩
      go_wp2
      exact ⟨rfl, rfl, HB1.out⟩
end Go.Proofs.YtlfmnedmbkpdbaaDoor

namespace Go.Proofs.YtlfmnedmbkpdbaaDoor
open Go.RowKit
theorem D_len {n m : Nat} (hn : n ≤ 1099511627776) (hm : m < n) : (Tree.D n m).length ≤ 1000 := by
  rw [Tree.D_U n n m (Nat.le_refl _) hm]
  have := Tree.U_len 41 m (n - 1) (by omega)
  omega
/-- what is accepted -/
structure Inc (N M : Nat) (leaf : List UInt8) (path : List (List UInt8)) (root : List UInt8) : Prop where
  lt : M < N
  le : N ≤ 1099511627776
  l32 : leaf.length = 32
  hs : Tree.Hs path
  len : path.length = (Tree.D N M).length
  up : Tree.upd leaf (Tree.D N M) path = root
theorem Inc.of {n m : Int} {leaf : List UInt8} {path : List (List UInt8)} {root : List UInt8} (h : incOf4 n m leaf path root = 0) : ∃ N M : Nat, n = N ∧ m = M ∧ Inc N M leaf path root := by
  unfold incOf4 at h
  by_cases h1 : (rootOf4 n m leaf path).2 = 0
  · rw [if_pos h1] at h
    split at h
    · split at h
      · rename_i _ h3
        unfold rootOf4 at h1 h3
        by_cases h4 : (lenOf n m).2 = 0
        · rw [if_pos h4] at h1 h3
          obtain ⟨a1, a2, a3, a4, a5⟩ := lenOf_ok h4
          by_cases h5 : chk leaf path (lenOf n m).1 = 0
          · rw [if_pos h5] at h3
            obtain ⟨c1, c2, c3⟩ := chk_len h5
            rw [a5] at c1
            refine ⟨n.toNat, m.toNat, by omega, by omega, by omega, by omega, c2, ?_, ?_, h3⟩
            · rw [List.all_eq_true] at c3
              exact fun x hx => by simpa using c3 x hx
            · have c4 : (path.length : Int) = (((Tree.D n.toNat m.toNat).length : Nat) : Int) := c1
              omega
          · rw [if_neg h5] at h1
            exact absurd h1 h5
        · rw [if_neg h4] at h1
          exact absurd h1 h4
      · cases h
    · cases h
  · rw [if_neg h1] at h
    exact absurd h h1
theorem fks_rev {N M : Nat} : ((Tree.fks N 0 N M).map Tree.fkR).reverse = Tree.D N M := by
  rw [Tree.fks_D N 0 N M (Nat.le_refl _) (Nat.zero_le _), List.reverse_reverse, Nat.sub_zero]
theorem fks_length {N M : Nat} : (Tree.fks N 0 N M).length = (Tree.D N M).length := by
  have := congrArg List.length (fks_rev (N := N) (M := M))
  rwa [List.length_reverse, List.length_map] at this
/-- X3 -/
def incO (n m : Int) (root leaf : List UInt8) (path : List (List UInt8)) (other : List UInt8) (way : List (List UInt8)) : (List UInt8 × List UInt8) × Int :=
  if incOf4 n m leaf path root = 0 ∧ incOf4 n m other way root = 0 then (if leaf = other ∧ path = way then (([], []), 60) else match Tree.hi (Tree.txs leaf (Tree.D n.toNat m.toNat) path) (Tree.txs other (Tree.D n.toNat m.toNat) way) with | some p => (p, 0) | none => (([], []), 60)) else (([], []), 61)
theorem inc_some {N M : Nat} {leaf other root : List UInt8} {path way : List (List UInt8)} (a : Inc N M leaf path root) (b : Inc N M other way root) (hne : ¬ (leaf = other ∧ path = way)) : ∃ p q, Tree.hi (Tree.txs leaf (Tree.D N M) path) (Tree.txs other (Tree.D N M) way) = some (p, q) ∧ p ≠ q ∧ Sha.sha p = Sha.sha q :=
  Tree.hi_some _ _ _ _ _ a.len b.len a.hs b.hs a.l32 b.l32 (a.up.trans b.up.symm) hne
set_option maxRecDepth 100000 in
set_option maxHeartbeats 2000000 in
theorem incl1_any (N M : Nat) (leaf other root p q : List UInt8) (path way : List (List UInt8)) (vp vw : Value) (w : World) (g0 g1 g2 g3 g4 g5 : Nat)
    (h0 : w.heap[g0]? = some (.cells #[.int .i64 (N : Int)] 3 (0, 0))) (h1 : w.heap[g1]? = some (.cells #[.int .i64 (M : Int)] 3 (0, 0))) (h2 : w.heap[g2]? = some (.cells #[sv leaf] 9 (0, 0))) (h3 : w.heap[g3]? = some (.cells #[vp] 22 (0, 0))) (h4 : w.heap[g4]? = some (.cells #[sv other] 9 (0, 0))) (h5 : w.heap[g5]? = some (.cells #[vw] 22 (0, 0)))
    (a : Inc N M leaf path root) (b : Inc N M other way root) (hp : Lv w vp path) (hw : Lv w vw way) (hf : Tree.hi (Tree.txs leaf (Tree.D N M) path) (Tree.txs other (Tree.D N M) way) = some (p, q)) (T : Tabs w) :
    Calls Tryd.prog 30 #[.pointer (some ⟨g0, 0, none⟩), .pointer (some ⟨g1, 0, none⟩), .pointer (some ⟨g2, 0, none⟩), .pointer (some ⟨g3, 0, none⟩), .pointer (some ⟨g4, 0, none⟩), .pointer (some ⟨g5, 0, none⟩)] w fun e w' => e = .panicked [{ v := prI p q, recovered := false }] ∧ Below w.heap.size w w' := by
  have i1 := fun w' => pathForks_any N M a.le a.lt (by rw [fks_length]; exact D_len a.le a.lt) w'
  have i2 := fun w' v (B : Nat) (hb : Below w.heap.size w w') (F : Fks w' B v (Tree.fks N 0 N M)) => partPaths_any (Tree.fks N 0 N M) leaf other path way v vp vw B w' p q F (hp.below hb) (hw.below hb) (by rw [fks_length]; exact a.len) (by rw [fks_length]; exact b.len) a.l32 b.l32 a.hs b.hs (by rw [fks_length]; exact D_len a.le a.lt) (T.below hb T.lt) (by rw [fks_rev, Tree.fst2_rev _ _ (by rw [Tree.txs_length _ _ _ a.len.symm, Tree.txs_length _ _ _ b.len.symm])]; exact hf)
  obtain ⟨ap, cp, rfl, _⟩ := hp
  obtain ⟨aw, cw, rfl, _⟩ := hw
  have H0 : ∀ w', Below w.heap.size w w' → w'.cell? ⟨g0, 0, none⟩ = some (.int .i64 (N : Int)) ∧ w'.cell? ⟨g1, 0, none⟩ = some (.int .i64 (M : Int)) ∧ w'.cell? ⟨g2, 0, none⟩ = some (.string ⟨leaf.toArray⟩) ∧ w'.cell? ⟨g3, 0, none⟩ = some (.slice ap path.length cp) ∧ w'.cell? ⟨g4, 0, none⟩ = some (.string ⟨other.toArray⟩) ∧ w'.cell? ⟨g5, 0, none⟩ = some (.slice aw way.length cw) := fun w' hb => by
    refine ⟨?_, ?_, ?_, ?_, ?_, ?_⟩
    · rw [cell_of_row _ _ _ _ _ _ ((hb.block _ (lt_of_heap h0)).trans h0)]; rfl
    · rw [cell_of_row _ _ _ _ _ _ ((hb.block _ (lt_of_heap h1)).trans h1)]; rfl
    · rw [cell_of_row _ _ _ _ _ _ ((hb.block _ (lt_of_heap h2)).trans h2)]; rfl
    · rw [cell_of_row _ _ _ _ _ _ ((hb.block _ (lt_of_heap h3)).trans h3)]; rfl
    · rw [cell_of_row _ _ _ _ _ _ ((hb.block _ (lt_of_heap h4)).trans h4)]; rfl
    · rw [cell_of_row _ _ _ _ _ _ ((hb.block _ (lt_of_heap h5)).trans h5)]; rfl
  have x0 := H0 w.drew (Below.refl _ _).drew
  have i1d := i1 w.drew
  clear h0 h1 h2 h3 h4 h5 hf T a b i1
  rw [svS leaf, svS other] at i2
  generalize path.length = np at *
  generalize way.length = nw at *
  go_enter Tryd.func30, Tryd.ntmps30
  refine wp_region_held_drew (S := (fun w' => w'.cell? ⟨g0, 0, none⟩ = some (.int .i64 (N : Int)) ∧ w'.cell? ⟨g1, 0, none⟩ = some (.int .i64 (M : Int)) ∧ w'.cell? ⟨g2, 0, none⟩ = some (.string ⟨leaf.toArray⟩) ∧ w'.cell? ⟨g3, 0, none⟩ = some (.slice ap np cp) ∧ w'.cell? ⟨g4, 0, none⟩ = some (.string ⟨other.toArray⟩) ∧ w'.cell? ⟨g5, 0, none⟩ = some (.slice aw nw cw))) (by kernel_rfl) x0 (fun hHeld => ?_)
  refine wpAnyH_take (i := 0) (v := .int .i64 (N : Int)) rfl (by kernel_rfl) (by kernel_rfl) (by kernel_rfl) (fun _ _ _ h => h) (Or.inl ⟨by rfl, ?_⟩) hHeld ?_
  · intro w' hw'
    obtain ⟨y, _, _, _, _, _⟩ := hw'
    simp [go_sem, y]
  dsimp only [Act.put]
  refine wpAnyH_take (i := 1) (v := .int .i64 (M : Int)) rfl (by kernel_rfl) (by kernel_rfl) (by kernel_rfl) (fun _ _ _ h => h) (Or.inl ⟨by rfl, ?_⟩) hHeld ?_
  · intro w' hw'
    obtain ⟨_, y, _, _, _, _⟩ := hw'
    simp [go_sem, y]
  dsimp only [Act.put]
  refine wpAnyH_take (i := 3) (v := .string ⟨leaf.toArray⟩) rfl (by kernel_rfl) (by kernel_rfl) (by kernel_rfl) (fun _ _ _ h => h) (Or.inl ⟨by rfl, ?_⟩) hHeld ?_
  · intro w' hw'
    obtain ⟨_, _, y, _, _, _⟩ := hw'
    simp [go_sem, y]
  dsimp only [Act.put]
  refine wpAnyH_take (i := 4) (v := .slice ap np cp) rfl (by kernel_rfl) (by kernel_rfl) (by kernel_rfl) (fun _ _ _ h => h) (Or.inl ⟨by rfl, ?_⟩) hHeld ?_
  · intro w' hw'
    obtain ⟨_, _, _, y, _, _⟩ := hw'
    simp [go_sem, y]
  dsimp only [Act.put]
  refine wpAnyH_take (i := 5) (v := .string ⟨other.toArray⟩) rfl (by kernel_rfl) (by kernel_rfl) (by kernel_rfl) (fun _ _ _ h => h) (Or.inl ⟨by rfl, ?_⟩) hHeld ?_
  · intro w' hw'
    obtain ⟨_, _, _, _, y, _⟩ := hw'
    simp [go_sem, y]
  dsimp only [Act.put]
  refine wpAnyH_take (i := 6) (v := .slice aw nw cw) rfl (by kernel_rfl) (by kernel_rfl) (by kernel_rfl) (fun _ _ _ h => h) (Or.inl ⟨by rfl, ?_⟩) hHeld ?_
  · intro w' hw'
    obtain ⟨_, _, _, _, _, y⟩ := hw'
    simp [go_sem, y]
  dsimp only [Act.put]
  refine wpAnyH_ready (rs := [2]) (by kernel_rfl) (by decide) (AllReadyH.cons rfl (fun K' hK => ?_) AllReadyH.nil)
  rw [if_pos (by rfl)]
  go_wp2_with (go_at_call 32; fail)
  refine i1d.mono ?_
  rintro e w5 ⟨v5, rfl, F5, c5⟩
  have b5 := drewBelow6 c5
  have x2 := H0 w5 b5
  have i2d := i2 w5 v5 _ b5 F5
  obtain ⟨a5, c5', rfl, _, _⟩ := F5.1.shape
  clear c5 i1d i2
  generalize (Tree.fks N 0 N M).length = nf at *
  go_wp2
  refine hK.out _ _ x2 (fun _ => ?_)
  refine wpAnyH_ready (rs := [7]) (by kernel_rfl) (by decide) (AllReadyH.cons rfl (fun K2 hK2 => ?_) AllReadyH.nil)
  rw [if_pos (by rfl)]
  go_wp2_with (go_at_call 31; fail)
  refine i2d.mono ?_
  rintro e w6 ⟨rfl, b6⟩
  exact ⟨rfl, rfl, b5.trans (b6.mono b5.size)⟩
end Go.Proofs.YtlfmnedmbkpdbaaDoor
