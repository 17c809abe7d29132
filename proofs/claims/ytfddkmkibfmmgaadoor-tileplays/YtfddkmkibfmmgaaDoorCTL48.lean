import Derived.Test.YtfddkmkibfmmgaaDoorCTL47
namespace Go.Proofs.YtfddkmkibfmmgaaDoor
open Go.RowKit
theorem Keep.below {S : Nat → Prop} {w w' : World} {B : Nat} (h : Keep S w w') (hB : B ≤ w.heap.size) (hd : ∀ k, k < B → ¬ S k) : Below B w w' := ⟨h.os, h.tape, h.output, h.size, fun k hk => h.block k (Nat.lt_of_lt_of_le hk hB) (hd k hk)⟩
theorem Own.atS {w : World} {base n uc : Nat} {ua : Option Addr} {l : List (List UInt8)} (h : Own w base (.slice ua n uc) (svs l)) : n = l.length ∧ At w ua l := by
  obtain ⟨a, c, e, hA, _⟩ := h.at
  injection e with e1 e2 e3
  subst e1 e2
  exact ⟨rfl, hA⟩
namespace Wb
theorem take_setV (L : List Value) (kk : Nat) (h : kk < L.length) (m : Value) (ht : L.take kk = List.replicate kk m) : (L.set kk m).take (kk + 1) = List.replicate (kk + 1) m := by
  rw [List.take_add_one, List.getElem?_set_self h, List.take_set_of_le (Nat.le_refl _), ht, List.replicate_succ']
  rfl
theorem Bk.at2 {w : World} {X fb N c k g n uc j : Nat} {ρ : Rol} {S : BS} {L : List Value} (h : Bk w X ρ S) (hv : S.v2 = .slice (some ⟨fb, 0, none⟩) N c) (hlo : S.o2 ≤ k) (hu : S.u2[k]? = some (.slice (some ⟨g, 0, none⟩) n uc)) (hL : S.L2[k]? = some L) (hj : j < L.length) :
    w.cell? ⟨X, 5, none⟩ = some (.slice (some ⟨fb, 0, none⟩) N c) ∧ w.cell? ⟨fb, k, none⟩ = some (.slice (some ⟨g, 0, none⟩) n uc) ∧ ∃ y, w.cell? ⟨g, j, none⟩ = some y ∧ w.frozen? ⟨g, j, none⟩ = false := by
  refine ⟨?_, own_cell h.f2.own (by rw [hv]; rfl) hu, own_there (h.f2.each k _ L hlo hu hL).1 hj⟩
  rw [cell_of_row _ _ _ _ _ _ h.row, ← hv]
  rfl
theorem after_grow1 {w w2 : World} {X fb : Nat} {ρ1 ρ2 : Rol} {S1 : BS} {v' : Value} {G2 : List Value} (B : Bk w X ρ1 S1) (F2 : Fam w2 X ρ2 1 mvT v' G2) (M : Mv 1 X w ρ1 w2 ρ2) (hfb : ρ1 fb = some (.fld 2)) : w2.heap[X]? = w.heap[X]? ∧ w2.heap[fb]? = w.heap[fb]? ∧ w2.frozen? ⟨X, 4, none⟩ = false ∧ Bk (w2.setCell ⟨X, 4, none⟩ v') X ρ2 { S1 with vT := v', GT := G2 } ∧ Below X w (w2.setCell ⟨X, 4, none⟩ v') := by
  obtain ⟨e1, hB⟩ := B.grownT F2 M
  refine ⟨e1, (M.kept B.lt hfb (by show ¬ ((2 : Nat) = 1); decide)).1, frozen_of_row _ _ _ _ _ (e1.trans B.row), hB, ?_⟩
  have hX := lt_of_heap B.row
  have hM : Below X w w2 := M.keep.below (by omega) (fun j hj ⟨r, hr, _⟩ => by have := (B.lt j r hr).1; omega)
  exact hM.setCell (p := ⟨X, 4, none⟩) (Nat.le_refl _) _
def GrT (S : BS) (M4 : List (List Value)) (j0 k : Nat) (S' : BS) : Prop := S'.v2 = S.v2 ∧ S'.u2 = S.u2 ∧ S'.L2 = M4 ∧ S'.o2 = k ∧ S'.GT.length = 6 * (j0 + k)
theorem heapCell {w w' : World} (e : w'.heap = w.heap) (p : Addr) : w'.cell? p = w.cell? p := World.cell?_of_block (w := w) (by rw [e])
set_option maxRecDepth 100000 in
set_option maxHeartbeats 8000000 in
theorem settled_any (X j0 : Nat) (ρ : Rol) (S : BS) (w : World) (h : Bk w X ρ S) (ho4 : S.o2 = 0) (hGT : S.GT.length = 6 * j0) (h45 : S.L2 = S.L3)
    (tT : ∀ L ∈ S.L2, ∃ l : List (List UInt8), L = svs l) (bT : j0 + S.L2.length ≤ 249) :
    Calls Tryd.prog 32 #[.pointer (some ⟨X, 0, none⟩)] w fun r w' => r = .returned (.bool true) ∧ Below X w w' := by
  obtain ⟨nT, hnT⟩ : ∃ n, S.L2.length = n := ⟨_, rfl⟩
  rw [hnT] at bT
  obtain ⟨n4a, n4c, hv4⟩ := h.f2.own.shape
  obtain ⟨n5a, n5c, hv5⟩ := h.f3.own.shape
  rw [h.f2.len, hnT] at hv4
  rw [h.f3.len, ← h45, hnT] at hv5
  have c4 : w.cell? ⟨X, 5, none⟩ = some S.v2 := by rw [cell_of_row _ _ _ _ _ _ h.row]; rfl
  have c5 : w.cell? ⟨X, 6, none⟩ = some S.v3 := by rw [cell_of_row _ _ _ _ _ _ h.row]; rfl
  rw [hv4] at c4
  rw [hv5] at c5
  have O4 := hid (by have := h.f2.own; rw [hv4] at this; exact this)
  have O5 := hid (by have := h.f3.own; rw [hv5] at this; exact this)
  have N4 := hid hnT
  have E4 := hid h45
  have Z4 := hid ho4
  have HGT := hid hGT
  have TT := hid tT
  have HB := hid h
  have HV4 := hid hv4
  clear hnT h45 ho4 hGT tT h hv4 hv5
  go_enter Tryd.func32, Tryd.ntmps32
  go_wp2
  go_loopw [3] (fun i w' => ∃ k : Nat, k ≤ nT ∧ i = .int .i64 (k : Int) ∧ Hid (Below w.heap.size w w' ∧ w'.heap = w.heap)) (fun i _ => nT - (intOf i).toNat)
  case atStart => exact ⟨0, by omega, rfl, hid ⟨Below.refl _ _, rfl⟩⟩
  case round =>
    obtain ⟨k4, hk4, rfl, hw4⟩ := hrel
    have z4 := (heapCell hw4.out.2 ⟨X, 5, none⟩).trans c4
    by_cases hkN4 : k4 < nT
    · have b0 : (k4 : Int) < (nT : Int) := by omega
      have z5 := (heapCell hw4.out.2 ⟨X, 6, none⟩).trans c5
      obtain ⟨L, hL⟩ : ∃ L, S.L2[k4]? = some L := ⟨_, List.getElem?_eq_getElem (by have := N4.out; omega)⟩
      obtain ⟨u, hu⟩ : ∃ u, S.u2[k4]? = some u := ⟨_, List.getElem?_eq_getElem (by have := N4.out; have := HB.out.f2.len; omega)⟩
      obtain ⟨c, hc⟩ : ∃ c, S.u3[k4]? = some c := ⟨_, List.getElem?_eq_getElem (by have := N4.out; have := HB.out.f3.len; have := congrArg List.length E4.out; omega)⟩
      obtain ⟨fb, rfl, d0, _⟩ := ownHead O4.out hu
      obtain ⟨wb, rfl, d1, _⟩ := ownHead O5.out hc
      obtain ⟨o1, o2, _⟩ := HB.out.f2.each k4 u L (by have := Z4.out; omega) hu hL
      obtain ⟨o3, _, _⟩ := HB.out.f3.each k4 c L (Nat.zero_le _) hc (by rw [← E4.out]; exact hL)
      obtain ⟨l, rfl⟩ := TT.out L (List.mem_of_getElem? hL)
      obtain ⟨ua, uc, rfl⟩ := o1.shape
      obtain ⟨ca, cc, rfl⟩ := o3.shape
      have hln : l.length ≤ 1100000 := by rw [svs_length] at o2; exact o2
      have hs := fun w'' (e : Below w.heap.size w w'') => same_yes l ua ca uc cc w'' (o1.below e (Nat.le_refl _)).atS.2 (o3.below e (Nat.le_refl _)).atS.2 (by omega)
      have f0 := (heapCell hw4.out.2 ⟨fb, k4, none⟩).trans d0
      have f1 := (heapCell hw4.out.2 ⟨wb, k4, none⟩).trans d1
      rw [svs_length] at f0 f1
      obtain ⟨n, hn⟩ : ∃ n, l.length = n := ⟨_, rfl⟩
      rw [hn] at f0 f1 hs
      clear o1 o3 hu hc hL d0 d1 hn o2
      go_wp2
      go_region_held3 (fun w' => w'.cell? ⟨X, 5, none⟩ = some (.slice (some ⟨fb, 0, none⟩) nT n4c) ∧ w'.cell? ⟨X, 6, none⟩ = some (.slice (some ⟨wb, 0, none⟩) nT n5c) ∧ w'.cell? ⟨fb, k4, none⟩ = some (.slice ua n uc) ∧ w'.cell? ⟨wb, k4, none⟩ = some (.slice ca n cc)) (first | exact e4 | exact ⟨z4, z5, f0, f1⟩)
        (first | (go_at_call 26; (with_reducible refine (hs wr.drew (hw4.out.1.drew)).mono ?_); rintro e w9 ⟨rfl, hw9, hh9'⟩; have hh9 : w9.heap = wr.heap := hh9'; have e4 := And.intro ((heapCell hh9 ⟨X, 5, none⟩).trans z4) (And.intro ((heapCell hh9 ⟨X, 6, none⟩).trans z5) (And.intro ((heapCell hh9 ⟨fb, k4, none⟩).trans f0) ((heapCell hh9 ⟨wb, k4, none⟩).trans f1)))))
      go_wp2
      exact ⟨⟨k4 + 1, by omega, by go_num, hid ⟨hw4.out.1.trans (((Below.refl wr.heap.size wr).drew.trans hw9).mono hw4.out.1.size), hh9.trans hw4.out.2⟩⟩, by simp [intOf]; omega⟩
    · have b0 : ¬ (k4 : Int) < (nT : Int) := by omega
      have B0 : Bk wr X ρ S := HB.out.below hw4.out.1
      have x1 : wr.cell? ⟨X, 4, none⟩ = some S.vT := by rw [cell_of_row _ _ _ _ _ _ B0.row]; rfl
      obtain ⟨ta, tc, hvT⟩ := B0.T.own.shape
      rw [HGT.out] at hvT
      rw [hvT] at x1
      have q2 : ((6 * j0 : Nat) : Int) / 6 = (j0 : Int) := by omega
      have q4 : IntKind.i64.wrap (j0 : Int) = (j0 : Int) := by rw [IntKind.wrap_i64]; omega
      obtain ⟨t6, ht6⟩ : ∃ m, 6 * j0 = m := ⟨_, rfl⟩
      rw [ht6] at x1 q2
      have BB0 := hid (show Below X w wr from hw4.out.1.mono (by have := lt_of_heap HB.out.row; omega))
      have HB0 := hid B0
      clear B0 hvT ht6 O4 O5 E4 TT
      go_wp2
      clear z4
      go_loopw [6] (fun i w' => ∃ (k : Nat) (M : List (List Value)), k ≤ nT ∧ i = .int .i64 (k : Int) ∧ Hid (Bk w' X ρ { S with L2 := M }) ∧ Hid (M.length = nT) ∧ Hid (∀ (j : Nat) (L : List Value), j < k → M[j]? = some L → L = List.replicate L.length (mvT (j0 + j))) ∧ Hid (Below X w w')) (fun i _ => nT - (intOf i).toNat)
      case atStart => exact ⟨0, S.L2, by omega, rfl, HB0, N4, (fun j L hj => by omega), BB0⟩
      case round =>
        clear HB0 BB0
        obtain ⟨k, M, hk, rfl, B, hM, hmk, hBB⟩ := hrel
        have z4 : wr.cell? ⟨X, 5, none⟩ = some S.v2 := by rw [cell_of_row _ _ _ _ _ _ B.out.row]; rfl
        rw [HV4.out] at z4
        by_cases hkN : k < nT
        · have b0 : (k : Int) < (nT : Int) := by omega
          obtain ⟨L0, hL0⟩ : ∃ L, M[k]? = some L := ⟨_, List.getElem?_eq_getElem (by rw [hM.out]; exact hkN)⟩
          obtain ⟨u, hu⟩ : ∃ u, S.u2[k]? = some u := ⟨_, List.getElem?_eq_getElem (by have := N4.out; have := HB.out.f2.len; omega)⟩
          have ho := B.out.f2.own
          rw [show ({ S with L2 := M } : BS).v2 = .slice n4a nT n4c from HV4.out] at ho
          obtain ⟨fb, efb, d0, _⟩ := ownHead ho hu
          obtain ⟨o1, o2, _⟩ := B.out.f2.each k u L0 (by have := Z4.out; show S.o2 ≤ k; omega) hu hL0
          obtain ⟨ua, uc, hue⟩ := o1.shape
          obtain ⟨n, hn⟩ : ∃ n, L0.length = n := ⟨_, rfl⟩
          rw [hn] at hue o2
          rw [hue] at d0
          have HU := hid (hu.trans (congrArg some hue))
          have EFB := hid efb
          rw [efb] at z4
          clear ho o1 hu hue efb
          go_wp2
          obtain ⟨wo, rfl⟩ : ∃ wo : World, wo = wr := ⟨_, rfl⟩
          go_loopw [7] (fun i w' => ∃ (j : Nat) (M' : List (List Value)) (L' : List Value), j ≤ n ∧ i = .int .i64 (j : Int) ∧ Hid (Bk w' X ρ { S with L2 := M' }) ∧ Hid (M'.length = nT) ∧ Hid (∀ (jj : Nat) (L : List Value), jj < k → M'[jj]? = some L → L = List.replicate L.length (mvT (j0 + jj))) ∧ Hid (M'[k]? = some L') ∧ Hid (L'.length = n) ∧ Hid (L'.take j = List.replicate j (mvT (j0 + k))) ∧ Hid (Below X w w')) (fun i _ => n - (intOf i).toNat)
          case atStart => exact ⟨0, M, L0, by omega, rfl, B, hM, hmk, hL0, hn, rfl, hBB⟩
          case round =>
            clear B hM hmk hBB z4 d0 hL0
            obtain ⟨j, M', L', hj, rfl, B, hM, hmk, hL', hLn, htk, hBB⟩ := hrel
            have z4 : wr.cell? ⟨X, 5, none⟩ = some S.v2 := by rw [cell_of_row _ _ _ _ _ _ B.out.row]; rfl
            rw [HV4.out, EFB.out] at z4
            have d0 : wr.cell? ⟨fb, k, none⟩ = some (.slice ua n uc) := by
              have ho := B.out.f2.own
              rw [show ({ S with L2 := M' } : BS).v2 = .slice (some ⟨fb, 0, none⟩) nT n4c from HV4.out.trans (by rw [EFB.out])] at ho
              exact own_cell ho rfl HU.out
            by_cases hjn : j < n
            · have b1 : (j : Int) < (n : Int) := by omega
              obtain ⟨o1, _, o3⟩ := B.out.f2.each k _ L' (by have := Z4.out; show S.o2 ≤ k; omega) HU.out hL'.out
              rcases own_cases o1 with ⟨e, e2⟩ | ⟨g, c, e, eg⟩
              · have := hLn.out; rw [e2] at this; simp at this; omega
              · injection e with e1 e2 e3
                have hset := B.out.set2 (by have := Z4.out; show S.o2 ≤ k; omega) (show S.u2[k]? = some (.slice (some ⟨g, 0, none⟩) n uc) by rw [HU.out, e1]) hL'.out (k := j) (by rw [hLn.out]; exact hjn) (mvT (j0 + k))
                rw [e1] at o1 d0
                obtain ⟨y, y1, y2⟩ := own_there o1 (k := j) (by rw [hLn.out]; exact hjn)
                have hgX : Hid (X ≤ g) := o1.ge g rfl
                subst e1
                have hBs := hid hset
                clear o1 o3 hset eg e2 e3
                have fin : Hid (∀ (jj : Nat) (L : List Value), jj < k → (M'.set k (L'.set j (mvT (j0 + k))))[jj]? = some L → L = List.replicate L.length (mvT (j0 + jj))) := fun jj L h1 h2 => hmk.out jj L h1 (by rw [List.getElem?_set_ne (by omega)] at h2; exact h2)
                have f1 : Hid ((M'.set k (L'.set j (mvT (j0 + k)))).length = nT) := by
                  show (M'.set k (L'.set j (mvT (j0 + k)))).length = nT
                  rw [List.length_set]; exact hM.out
                have f2 : Hid ((M'.set k (L'.set j (mvT (j0 + k))))[k]? = some (L'.set j (mvT (j0 + k)))) := List.getElem?_set_self (by rw [hM.out]; exact hkN)
                have f3 : Hid ((L'.set j (mvT (j0 + k))).length = n) := by
                  show (L'.set j (mvT (j0 + k))).length = n
                  rw [List.length_set]; exact hLn.out
                have f4 : Hid ((L'.set j (mvT (j0 + k))).take (j + 1) = List.replicate (j + 1) (mvT (j0 + k))) := take_setV L' j (by rw [hLn.out]; exact hjn) _ htk.out
                obtain ⟨MB, hMB⟩ : ∃ MB : ByteArray, Hid (mvT (j0 + k) = .string MB) := ⟨⟨(mrk (j0 + k)).toArray⟩, rfl⟩
                have hmark := fun w' => show Calls Tryd.prog 57 #[.int .i64 ((j0 + k : Nat) : Int)] w' fun e w'' => e = .returned (mvT (j0 + k)) ∧ Below w'.heap.size w' w'' from mark_at (j0 + k) (by omega) w'
                rw [hMB.out, show ((j0 + k : Nat) : Int) = (j0 : Int) + (k : Int) from by omega] at hmark
                have x5 : IntKind.i64.wrap ((j0 : Int) + (k : Int)) = (j0 : Int) + (k : Int) := by rw [IntKind.wrap_i64]; omega
                have HD := hid (B.out.below (Below.refl wr.heap.size wr).drew)
                have hlo4 : Hid (({ S with L2 := M' } : BS).o2 ≤ k) := by
                  show S.o2 ≤ k
                  have := Z4.out
                  omega
                have hv4 : Hid (({ S with L2 := M' } : BS).v2 = .slice (some ⟨fb, 0, none⟩) nT n4c) := HV4.out.trans (by rw [EFB.out])
                clear hBs y1 y2 y
                go_wp2
                go_region_with ((go_at_call 57; refine (hmark _).mono ?_; rintro e w2 ⟨rfl, hw2⟩; have M3 := HD.out.below hw2; obtain ⟨c3, d3, y, x3, z3⟩ := M3.at2 hv4.out hlo4.out HU.out hL'.out (j := j) (by rw [hLn.out]; exact hjn)))
                all_goals go_wp2
                all_goals
                  have M4 := M3.set2 hlo4.out HU.out hL'.out (k := j) (by rw [hLn.out]; exact hjn) (mvT (j0 + k))
                  have M5 : Hid (Bk (w2.setCell ⟨g, j, none⟩ (.string MB)) X ρ { S with L2 := M'.set k (L'.set j (mvT (j0 + k))) }) := by
                    show Bk (w2.setCell ⟨g, j, none⟩ (.string MB)) X ρ { S with L2 := M'.set k (L'.set j (mvT (j0 + k))) }
                    rw [← hMB.out]
                    exact M4
                  have B4 := hid ((hBB.out.trans (((Below.refl wr.heap.size wr).drew.trans hw2).mono (by have := lt_of_heap B.out.row; omega))).setCell (p := ⟨g, j, none⟩) hgX.out (.string MB))
                  exact ⟨⟨j + 1, _, _, by omega, by go_num, M5, f1, fin, f2, f3, f4, B4⟩, by simp [intOf]; omega⟩
            · have b1 : ¬ (j : Int) < (n : Int) := by omega
              go_wp2
              refine ⟨?_, by simp [intOf]; omega⟩
              have hmk' : Hid (∀ (jj : Nat) (L : List Value), jj < k + 1 → M'[jj]? = some L → L = List.replicate L.length (mvT (j0 + jj))) := fun jj L h1 h2 => by
                by_cases e : jj < k
                · exact hmk.out jj L e h2
                · obtain rfl : k = jj := by omega
                  rw [hL'.out] at h2
                  obtain rfl := Option.some.inj h2
                  have := htk.out
                  rw [List.take_of_length_le (by rw [hLn.out]; omega)] at this
                  rw [this, List.length_replicate]
              first
                | exact ⟨k + 1, M', by omega, by go_num, B, hM, hmk', hBB⟩
                | (repeat apply Exists.intro
                   exact ⟨⟨k + 1, M', by omega, by go_num, B, hM, hmk', hBB⟩, rfl⟩)
        · have b0 : ¬ (k : Int) < (nT : Int) := by omega
          obtain rfl : nT = k := by omega
          have all4 := hid (fun j L (hj : j < nT) h => hmk.out j L hj h)
          obtain ⟨M4, hM4e⟩ : ∃ M4, M4 = M := ⟨_, rfl⟩
          subst hM4e
          have hM4 := hM
          have B0 := B
          have BB0 := hBB
          have I0 : Hid (GrT S M4 j0 0 { S with L2 := M4 }) := ⟨rfl, rfl, rfl, Z4.out, HGT.out⟩
          clear B hM hmk hBB
          go_wp2
          clear z4
          go_loopw [8] (fun i w' => ∃ (k : Nat) (ρ' : Rol) (S' : BS), k ≤ nT ∧ i = .int .i64 (k : Int) ∧ Hid (Bk w' X ρ' S') ∧ Hid (GrT S M4 j0 k S') ∧ Hid (Below X w w')) (fun i _ => nT - (intOf i).toNat)
          case atStart => exact ⟨0, _, _, by omega, rfl, B0, I0, BB0⟩
          case round =>
            clear B0 I0 BB0
            obtain ⟨k, ρ', S', hk, rfl, B, hI, hBB⟩ := hrel
            have z4 : wr.cell? ⟨X, 5, none⟩ = some S'.v2 := by rw [cell_of_row _ _ _ _ _ _ B.out.row]; rfl
            rw [hI.out.1, HV4.out] at z4
            by_cases hkN : k < nT
            · have b0 : (k : Int) < (nT : Int) := by omega
              obtain ⟨L0, hL0⟩ : ∃ L, M4[k]? = some L := ⟨_, List.getElem?_eq_getElem (by rw [hM4.out]; exact hkN)⟩
              obtain ⟨u, hu⟩ : ∃ u, S'.u2[k]? = some u := ⟨_, List.getElem?_eq_getElem (by have := B.out.f2.len; rw [hI.out.2.2.1, hM4.out] at this; omega)⟩
              have hLr := all4.out k L0 hkN hL0
              obtain ⟨l, hl⟩ : ∃ l, L0.length = l := ⟨_, rfl⟩
              rw [hl] at hLr
              have ho := B.out.f2.own
              rw [hI.out.1, HV4.out] at ho
              obtain ⟨fb, efb, d0, _⟩ := ownHead ho hu
              obtain ⟨o1, o2, _⟩ := B.out.f2.each k u L0 (by rw [hI.out.2.2.2.1]; exact Nat.le_refl _) hu (by rw [hI.out.2.2.1]; exact hL0)
              rw [hl] at o2
              obtain ⟨ρ1, B1, X1⟩ := B.out.adopt2 (i := k) (l := l) (m := j0 + k) hI.out.2.2.2.1 hu (by rw [hI.out.2.2.1, hL0, hLr])
              obtain ⟨ua, un, uc, rfl⟩ := o1.sl
              have xV : wr.cell? ⟨X, 4, none⟩ = some S'.vT := by rw [cell_of_row _ _ _ _ _ _ B.out.row]; rfl
              obtain ⟨va, vn, vc, hV⟩ := B.out.T.own.sl
              have B1d := B1.below (Below.refl wr.heap.size wr).drew
              have X1d : Xs wr.drew X ρ1 1 mvT (j0 + k) l (.slice ua un uc) := X1.ext (Nat.le_refl _) (fun _ _ => rfl) (fun _ _ h => h)
              have hfb : Hid (ρ1 fb = some (.fld 2)) := B1.f2.rl fb (by show Value.ownBlock S'.v2 = _; rw [hI.out.1, HV4.out, efb]; rfl)
              obtain ⟨MB, hmv⟩ : ∃ MB : ByteArray, Hid (mvT (j0 + k) = .string MB) := ⟨⟨(mrk (j0 + k)).toArray⟩, rfl⟩
              have hmark := fun w' => show Calls Tryd.prog 57 #[.int .i64 ((j0 + k : Nat) : Int)] w' fun e w'' => e = .returned (mvT (j0 + k)) ∧ Below w'.heap.size w' w'' from mark_at (j0 + k) (by omega) w'
              rw [hmv.out, show ((j0 + k : Nat) : Int) = (j0 : Int) + (k : Int) from by omega] at hmark
              have x5 : IntKind.i64.wrap ((j0 : Int) + (k : Int)) = (j0 : Int) + (k : Int) := by rw [IntKind.wrap_i64]; omega
              have I3f : ∀ (v' : Value) (G2 : List Value), G2.length = 6 * (j0 + k + 1) → Hid (GrT S M4 j0 (k + 1) { S' with o2 := k + 1, vT := v', GT := G2 }) := fun v' G2 hG => ⟨hI.out.1, hI.out.2.1, hI.out.2.2.1, rfl, (show G2.length = _ by omega)⟩
              have hcall := fun (w8 : World) (hw8 : Below wr.drew.heap.size wr.drew w8) => growsT_any mvT MB X (j0 + k) l ρ1 S'.vT (.slice ua un uc) S'.GT w8 hmv (B1d.below hw8).T (B1d.below hw8).lt (X1d.ext hw8.size (fun j hj => hw8.block j (X1d.own.lt j hj)) (fun _ _ h => h)) hI.out.2.2.2.2 (by omega) (by omega) (by have := lt_of_heap (B1d.below hw8).row; omega)
              rw [hV] at hcall
              rw [hV] at xV
              rw [efb] at z4
              have HB1 := hid B1d
              have HX1 := hid X1d
              have hG6 := hid hI.out.2.2.2.2
              have hlX := hid (lt_of_heap B.out.row)
              have HVV := hid hV
              clear B1 X1 B1d X1d o1 ho hu hL0 hLr hl efb
              go_wp2
              go_region_with (first
                | (go_at_call 57; refine (hmark _).mono ?_; rintro r w8 ⟨rfl, hw8⟩; have xV8 := (hw8.cell (p := ⟨X, 4, none⟩) hlX.out).trans xV; have z8 := (hw8.cell (p := ⟨X, 5, none⟩) hlX.out).trans z4; have d8 := (hw8.cell (p := ⟨fb, k, none⟩) (HB1.out.lt fb _ hfb.out).2).trans d0)
                | (go_at_call 58; refine (hcall w8 hw8).mono ?_; rintro r w2 ⟨v', ρ2, G2, rfl, F2, hG2, M2'⟩; obtain ⟨va', vn', vc', rfl⟩ := F2.own.sl; obtain ⟨e1, e2, f4, hB3, hW3⟩ := after_grow1 (HB1.out.below hw8) F2 M2' hfb.out; have xV9 := (World.cell?_of_block (w := wr) (a := ⟨X, 4, none⟩) (e1.trans (hw8.block X hlX.out))).trans xV; have B3 := hid hB3; have B4 := hid ((hBB.out.trans (((show Below wr.heap.size wr wr.drew from (Below.refl wr.heap.size wr).drew).trans hw8).mono (by have := hlX.out; omega))).trans hW3); have I3 := I3f (.slice va' vn' vc') G2 hG2; clear hB3 F2 M2' e1 e2 hW3))
              all_goals go_wp2
              all_goals exact ⟨⟨k + 1, ρ2, _, by omega, by go_num, B3, I3, B4⟩, by simp [intOf]; omega⟩
            · have b0 : ¬ (k : Int) < (nT : Int) := by omega
              obtain rfl : nT = k := by omega
              have hB8 := kept_any X ρ' S' wr B.out (by rw [hI.out.2.2.2.2]; omega)
              have hXl := hid (lt_of_heap B.out.row)
              clear B hI
              go_wp2_with (go_at_call 31; fail)
              refine hB8.mono ?_
              rintro r w9 ⟨rfl, hw9⟩
              have B9 := hid (hBB.out.trans (hw9.mono (by have := hXl.out; omega)))
              clear hB8 hw9
              go_wp2
              go_ret
              exact ⟨rfl, B9.out⟩
end Wb
end Go.Proofs.YtfddkmkibfmmgaaDoor
