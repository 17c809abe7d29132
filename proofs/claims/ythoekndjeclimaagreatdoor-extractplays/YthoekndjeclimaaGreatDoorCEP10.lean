import Derived.Test.YthoekndjeclimaaGreatDoorCFS1
namespace Go.Proofs.YthoekndjeclimaaGreatDoor
open Go.RowKit
theorem texts16 (w : World) (a : List UInt8) (t : TypeId) : Texts (w.alloc (.cells #[sv a] t)) w.heap.size 0 [a] := fun j p h => by
  rw [cell_of_row _ _ _ _ _ _ (heap_alloc_new w _), Nat.zero_add]
  match j, h with
  | 0, h => obtain rfl := Option.some.inj h; rfl
theorem sum_one (t : List UInt8) (ht : t.length ≤ 1000000000) (w : World) (T : Tabs w) : Calls Tryz.prog 61 #[.slice (some ⟨w.heap.size, 0, none⟩) 1 1] (w.alloc (.cells #[sv t] 9)) fun e w' => e = .returned (sv (Sha.sha t)) ∧ Below w.heap.size w w' := by
  have al := (Below.refl w.heap.size w).alloc (Nat.le_refl _) (.cells #[sv t] 9)
  have h := sum_any w.heap.size 0 1 [t] (by unfold total; simp; omega) (by simp [maxLen]) (w.alloc (.cells #[sv t] 9)) (T.below al T.lt) (by rw [size_alloc]; omega) (texts16 w t _)
  refine h.mono ?_
  rintro e w' ⟨rfl, hb⟩
  refine ⟨by simp, al.trans (hb.mono (by rw [size_alloc]; omega))⟩
theorem sum_at (t : List UInt8) (ht : t.length ≤ 1000000000) (w : World) (n : Nat) (hn : w.heap.size = n) (T : Tabs w) : Calls Tryz.prog 61 #[.slice (some ⟨n, 0, none⟩) 1 1] (w.alloc (.cells #[sv t] 9)) fun e w' => e = .returned (sv (Sha.sha t)) ∧ Below n w w' := by
  subst hn
  exact sum_one t ht w T
theorem size_set6 (w : World) (a : Addr) (v : Value) : (w.setCell a v).heap.size = w.heap.size := by simp [World.setCell]
theorem nt_val (x h : List UInt8) : Value.string ({ data := #[1] } ++ { data := x.toArray } ++ { data := h.toArray }) = sv (Tree.nt x h) := by
  unfold sv Tree.nt
  congr 1
set_option maxRecDepth 100000 in
set_option maxHeartbeats 2000000 in
theorem climb_any (fk : List Tree.Fork) (r : List UInt8) (hs : List (List UInt8)) (vf vb : Value) (B : Nat) (w : World) (F : Fks w B vf fk) (hb : Lv w vb hs) (hl : hs.length = fk.length) (hr : r.length = 32) (H : Tree.Hs hs) (hn : fk.length ≤ 1000) (T : Tabs w) :
    Calls Tryz.prog 50 #[vf, sv r, vb] w fun e w' => ∃ v, e = .returned v ∧ Lv w' v (Tree.txs r (fk.map Tree.fkR).reverse hs).reverse ∧ Below w.heap.size w w' := by
  obtain ⟨af, cf, rfl, _, _⟩ := F.1.shape
  obtain ⟨ab, cb, rfl, b1, b2, b3⟩ := hb
  obtain ⟨ds, hds⟩ : ∃ ds, Hid ((fk.map Tree.fkR).reverse = ds) := ⟨_, rfl⟩
  have hdl : Hid (ds.length = fk.length) := by unfold Hid; rw [← hds.out]; simp
  have hmk := make_texts w fk.length (by omega)
  have al := (Below.refl w.heap.size w).alloc (Nat.le_refl _) (.cells (svs (List.replicate fk.length [])).toArray 9)
  have R0 : Hid (Row (w.alloc (.cells (svs (List.replicate fk.length [])).toArray 9)) w.heap.size (tk r ds hs fk.length 0)) := by rw [tk_zero]; exact heap_alloc_new w _
  have B0 := hid al
  obtain ⟨x0, hx0⟩ : ∃ x0, Hid (Tree.upd r (ds.take 0) (hs.take 0) = x0) := ⟨_, rfl⟩
  have e0 : r = x0 := by rw [← hx0.out]; rfl
  have HF := hid F
  have HB3 := hid b3
  have HT := hid T
  have HHS := hid H
  have HR := hid hr
  have HL := hid hl
  rw [hds.out]
  clear F b3 T H hr al
  rw [svS r]
  rw [hl] at b1 ⊢
  obtain ⟨n, hnn⟩ : ∃ n, Hid (fk.length = n) := ⟨_, rfl⟩
  rw [hnn.out] at hmk R0 B0 hn b1 hdl HL ⊢
  generalize w.alloc (.cells (svs (List.replicate n [])).toArray 9) = w0 at *
  clear hl
  go_enter Tryz.func50, Tryz.ntmps50
  go_wp2
  clear hmk
  go_loopw [18, 8] (fun i x w' => ∃ (k : Nat) (y : List UInt8), i = .int .i64 (k : Int) ∧ k ≤ n ∧ x = .string ⟨y.toArray⟩ ∧ Hid (Tree.upd r (ds.take k) (hs.take k) = y) ∧ Hid (Row w' w.heap.size (tk r ds hs n k)) ∧ Hid (Below w.heap.size w w')) (fun i _ _ => n - (intOf i).toNat)
  case atStart => exact ⟨0, r, rfl, by omega, rfl, hid rfl, R0, B0⟩
  case round =>
    clear R0 B0 hx0 e0
    obtain ⟨k, y, rfl, hk, rfl, hy, hR, hB⟩ := hrel
    by_cases hkn : k < n
    · have c0 : (k : Int) < (n : Int) := by omega
      obtain ⟨u, hu⟩ : ∃ u, Hid (n - 1 - k = u) := ⟨_, rfl⟩
      have hu2 := hu.out
      have l1 := HL.out
      have l2 := hnn.out
      have l3 := hdl.out
      obtain ⟨h, hh⟩ : ∃ h, Hid (hs[k]? = some h) := ⟨_, List.getElem?_eq_getElem (by omega)⟩
      obtain ⟨f, hf⟩ : ∃ f, Hid (fk[u]? = some f) := ⟨_, List.getElem?_eq_getElem (by omega)⟩
      obtain ⟨z, rfl, _, hcell⟩ := (HB3.out.below hB.out (Nat.le_refl _)) k h hh.out
      have hd : Hid (ds[k]? = some (Tree.fkR f)) := by
        unfold Hid
        rw [← hds.out, List.getElem?_reverse (by simp; omega), List.getElem?_map]
        simp only [List.length_map]
        rw [show fk.length - 1 - k = u by omega, hf.out]
        rfl
      have h32 : h.length = 32 := HHS.out h (List.mem_of_getElem? hh.out)
      have y32 : y.length = 32 := by rw [← hy.out]; exact Tree.upd_length _ _ _ HR.out (HHS.out.take k)
      obtain ⟨gf, cf', ev, hgf, hgl⟩ := (HF.out.1.kept hB.out.size (fun g hg => hB.out.block g (HF.out.1.lt g hg))).cell (fvs_get fk u f hf.out).2.2.2
      rw [hnn.out] at ev
      injection ev with ev1 ev2 ev3
      subst ev1 ev3
      have hgne : gf ≠ w.heap.size := by
        have h1 := HF.out.1.lt gf (by rw [hnn.out]; rfl)
        omega
      have m1 : (n : Int) - 1 = ((n - 1 : Nat) : Int) := by omega
      have m2 : (n : Int) - 1 - (k : Int) = (u : Int) := by omega
      have m3 : (u : Int) < (n : Int) := by omega
      have m4 : u ≤ 1000 := by omega
      clear m1
      have t0 := hR.out.cell (List.getElem?_eq_getElem (show u < (tk r ds hs n k).length by rw [tk_len l3 l1 hk]; omega))
      have f0 := hR.out.free (show u < (tk r ds hs n k).length by rw [tk_len l3 l1 hk]; omega)
      generalize (tk r ds hs n k)[u]'(by rw [tk_len l3 l1 hk]; omega) = oldv at t0
      rw [svS] at t0 hcell
      have c1 : (wr.setCell ⟨w.heap.size, u, none⟩ (.string ({ data := #[1] } ++ { data := y.toArray } ++ { data := h.toArray }))).cell? ⟨gf, u * 4 + 3, none⟩ = some (.bool (Tree.fkR f)) := by
        rw [Nat.mul_comm u 4, World.cell?_of_block (w := wr) (Below.heap_setCell wr _ _ gf hgne)]; exact hgf
      have R1 : Row (wr.setCell ⟨w.heap.size, u, none⟩ (.string ({ data := #[1] } ++ { data := y.toArray } ++ { data := h.toArray }))) w.heap.size ((tk r ds hs n k).set u (Tree.nt y h)) := by
        have h2 := hR.out.set u (Tree.nt y h)
        rw [← nt_val y h] at h2
        exact h2
      have t1 := R1.cell (j := u) (p := Tree.nt y h) (List.getElem?_set_self (by rw [tk_len l3 l1 hk]; omega))
      rw [← nt_val y h] at t1
      have f1 := R1.free (show u < ((tk r ds hs n k).set u (Tree.nt y h)).length by rw [List.length_set, tk_len l3 l1 hk]; omega)
      clear R1 hgf
      by_cases hq : Tree.fkR f = true
      · rw [hq] at c1
        have hR' : Row ((wr.setCell ⟨w.heap.size, u, none⟩ (.string ({ data := #[1] } ++ { data := y.toArray } ++ { data := h.toArray }))).setCell ⟨w.heap.size, u, none⟩ (.string ({ data := #[1] } ++ { data := h.toArray } ++ { data := y.toArray }))) w.heap.size (tk r ds hs n (k + 1)) := by
          have h1 := (tk_next hkn l3 l1 hd.out hh.out HR.out HHS.out).1
          rw [hq, hy.out, hu2] at h1
          rw [← h1]
          have h2 := (hR.out.set u (Tree.nt y h)).set u (Tree.nt h y)
          rw [List.set_set, ← nt_val y h, ← nt_val h y] at h2
          exact h2
        have hy' : Hid (Tree.upd r (ds.take (k + 1)) (hs.take (k + 1)) = Sha.sha (Tree.nt h y)) := by
          have h1 := (tk_next hkn l3 l1 hd.out hh.out HR.out HHS.out).2
          rw [hq, hy.out] at h1
          exact h1
        have hlen' := tk_len (r := r) l3 l1 (show k + 1 ≤ n by omega)
        have c2 : ((wr.setCell ⟨w.heap.size, u, none⟩ (.string ({ data := #[1] } ++ { data := y.toArray } ++ { data := h.toArray }))).setCell ⟨w.heap.size, u, none⟩ (.string ({ data := #[1] } ++ { data := h.toArray } ++ { data := y.toArray }))).cell? ⟨w.heap.size, u, none⟩ = some (.string ({ data := #[1] } ++ { data := h.toArray } ++ { data := y.toArray })) := by
          have h1 := hR'.cell (j := u) (p := Tree.nt h y) (by
            have h2 := (tk_next hkn l3 l1 hd.out hh.out HR.out HHS.out).1
            rw [hq, hy.out, hu2] at h2
            rw [← h2, List.getElem?_set_self (by rw [tk_len l3 l1 hk]; omega)]
            rfl)
          rw [h1, nt_val]
        have hB' : Below w.heap.size w ((wr.setCell ⟨w.heap.size, u, none⟩ (.string ({ data := #[1] } ++ { data := y.toArray } ++ { data := h.toArray }))).setCell ⟨w.heap.size, u, none⟩ (.string ({ data := #[1] } ++ { data := h.toArray } ++ { data := y.toArray }))) := (hB.out.setCell (p := ⟨w.heap.size, u, none⟩) (Nat.le_refl _) _).setCell (p := ⟨w.heap.size, u, none⟩) (Nat.le_refl _) _
        have i1 := sum_at (Tree.nt h y) (by simp [Tree.nt]; omega) ((wr.setCell ⟨w.heap.size, u, none⟩ (.string ({ data := #[1] } ++ { data := y.toArray } ++ { data := h.toArray }))).setCell ⟨w.heap.size, u, none⟩ (.string ({ data := #[1] } ++ { data := h.toArray } ++ { data := y.toArray }))) wr.heap.size (by rw [size_set6, size_set6]) (HT.out.below hB' HT.out.lt)
        rw [← nt_val h y, svS] at i1
        have HR' := hid hR'
        have hB0 := hB.out.size
        have hR0 := hR.out.lt
        have HB' := hid hB'
        have s1 : ¬ 9223372036854775807 < 1 + y.length := by omega
        have s2 : ¬ 9223372036854775807 < 1 + y.length + h.length := by omega
        have s3 : ¬ 9223372036854775807 < 1 + h.length := by omega
        have s4 : ¬ 9223372036854775807 < 1 + h.length + y.length := by omega
        clear hR hB hy hh hf hd hR' hB' hq hu2 l1 l2 l3 hlen' y32 h32
        go_wp2_with (go_at_call 61; fail)
        with_reducible refine i1.mono ?_
        rintro e w3 ⟨rfl, b3'⟩
        have HR3 := hid (HR'.out.below b3' hR0)
        have HB3' := hid (HB'.out.trans (b3'.mono hB0))
        clear i1 b3' HR' HB'
        go_wp2
        exact ⟨⟨k + 1, Sha.sha (Tree.nt h y), by go_num, by omega, rfl, hy', HR3, HB3'⟩, by simp [intOf]; omega⟩
      · replace hq : Tree.fkR f = false := by simpa using hq
        rw [hq] at c1
        have hR' : Row (wr.setCell ⟨w.heap.size, u, none⟩ (.string ({ data := #[1] } ++ { data := y.toArray } ++ { data := h.toArray }))) w.heap.size (tk r ds hs n (k + 1)) := by
          have h1 := (tk_next hkn l3 l1 hd.out hh.out HR.out HHS.out).1
          rw [hq, hy.out, hu2] at h1
          rw [← h1]
          have h2 := hR.out.set u (Tree.nt y h)
          rw [← nt_val y h] at h2
          exact h2
        have hy' : Hid (Tree.upd r (ds.take (k + 1)) (hs.take (k + 1)) = Sha.sha (Tree.nt y h)) := by
          have h1 := (tk_next hkn l3 l1 hd.out hh.out HR.out HHS.out).2
          rw [hq, hy.out] at h1
          exact h1
        have hlen' := tk_len (r := r) l3 l1 (show k + 1 ≤ n by omega)
        have c2 : (wr.setCell ⟨w.heap.size, u, none⟩ (.string ({ data := #[1] } ++ { data := y.toArray } ++ { data := h.toArray }))).cell? ⟨w.heap.size, u, none⟩ = some (.string ({ data := #[1] } ++ { data := y.toArray } ++ { data := h.toArray })) := by
          have h1 := hR'.cell (j := u) (p := Tree.nt y h) (by
            have h2 := (tk_next hkn l3 l1 hd.out hh.out HR.out HHS.out).1
            rw [hq, hy.out, hu2] at h2
            rw [← h2, List.getElem?_set_self (by rw [tk_len l3 l1 hk]; omega)]
            rfl)
          rw [h1, nt_val]
        have hB' : Below w.heap.size w (wr.setCell ⟨w.heap.size, u, none⟩ (.string ({ data := #[1] } ++ { data := y.toArray } ++ { data := h.toArray }))) := hB.out.setCell (p := ⟨w.heap.size, u, none⟩) (Nat.le_refl _) _
        have i1 := sum_at (Tree.nt y h) (by simp [Tree.nt]; omega) (wr.setCell ⟨w.heap.size, u, none⟩ (.string ({ data := #[1] } ++ { data := y.toArray } ++ { data := h.toArray }))) wr.heap.size (by rw [size_set6]) (HT.out.below hB' HT.out.lt)
        rw [← nt_val y h, svS] at i1
        have HR' := hid hR'
        have hB0 := hB.out.size
        have hR0 := hR.out.lt
        have HB' := hid hB'
        have s1 : ¬ 9223372036854775807 < 1 + y.length := by omega
        have s2 : ¬ 9223372036854775807 < 1 + y.length + h.length := by omega
        have s3 : ¬ 9223372036854775807 < 1 + h.length := by omega
        have s4 : ¬ 9223372036854775807 < 1 + h.length + y.length := by omega
        clear hR hB hy hh hf hd hR' hB' hq hu2 l1 l2 l3 hlen' y32 h32
        go_wp2_with (go_at_call 61; fail)
        with_reducible refine i1.mono ?_
        rintro e w3 ⟨rfl, b3'⟩
        have HR3 := hid (HR'.out.below b3' hR0)
        have HB3' := hid (HB'.out.trans (b3'.mono hB0))
        clear i1 b3' HR' HB'
        go_wp2
        exact ⟨⟨k + 1, Sha.sha (Tree.nt y h), by go_num, by omega, rfl, hy', HR3, HB3'⟩, by simp [intOf]; omega⟩
    · obtain rfl : k = n := by omega
      have c0 : ¬ (k : Int) < (k : Int) := by omega
      have R1 := hR.out
      rw [tk_all hdl.out HL.out] at R1
      have HR1 := hid R1
      have hln : (Tree.txs r ds hs).reverse.length = k := by rw [List.length_reverse, Tree.txs_length _ _ _ (by rw [hdl.out, HL.out]), hdl.out]
      have HLN := hid hln
      clear R1 hR hln
      go_wp2
      go_ret
      refine ⟨_, rfl, ⟨_, k, by rw [HLN.out]; rfl, by rw [HLN.out]; exact Nat.le_refl _, by omega, HR1.out.at⟩, hB.out⟩
end Go.Proofs.YthoekndjeclimaaGreatDoor
