import Derived.Test.YtmhgdcfmfcjagaaGreatDoorPkMV7
namespace Go.Proofs.YtmhgdcfmfcjagaaGreatDoor
open Go.RowKit Cod
namespace Msg
def rlett : Fr → UInt8
  | .size => 115
  | .a => 97
  | .over => 98
  | .root => 114
  | .hashes => 104
  | .entries => 101
  | .parts => 103
theorem tw_rflds {K : Nat} (h2 : K ≤ 12) (h0 : K ≠ 0) (h11 : K ≠ 11) : tw (K : Int) = (rflds K).map rlett := by
  match K, h2, h0, h11 with
  | 1, _, _, _ | 2, _, _, _ | 3, _, _, _ | 4, _, _, _ | 5, _, _, _ | 6, _, _, _ | 7, _, _, _ | 8, _, _, _ | 9, _, _, _ | 10, _, _, _ | 12, _, _, _ => rfl
theorem frs_len_le (x : Part) (l : List Part) (hn : x.n = l.length) (fs : List Fr) {S out : List UInt8} (h : lFrs x (lParts l) fs (.ok S, false) = (.ok out, false)) : S.length ≤ out.length := by
  obtain ⟨bs, e, _⟩ := frs_back x (lParts l) tParts l (abs_lParts l) (parts_back l) hn fs S out h
  rw [e, List.length_append]
  omega
theorem parts_len_le (l : List Part) {S out : List UInt8} (h : l.foldl (fun s x => lPart x s) (.ok S, false) = (.ok out, false)) : S.length ≤ out.length := by
  obtain ⟨bs, e, _⟩ := manyP_back l S out h
  rw [e, List.length_append]
  omega
set_option maxRecDepth 100000 in
set_option maxHeartbeats 4000000 in
theorem layReply17_not {w : World} {hi xw K : Nat} {x : Part} {uh ue up : Value} {S : List UInt8} (hw : RWr w xw S 0) (hx : Ap w hi x uh ue up) (hK : K ≤ 12) (h1 : 0 ≤ x.status ∧ x.status ≤ 8) (hs : ¬ x.status = 0 ∨ K = 11) (ho : S.length ≤ 1000000000000000) :
    Calls Tryz.prog 44 #[.pointer (some ⟨xw, 0, none⟩), .int .i64 (K : Int), rpV x uh ue up] w (DL w xw (S ++ [UInt8.ofNat K] ++ [UInt8.ofNat x.status.toNat])) := by
  obtain ⟨p1, q1, rfl, _⟩ := id hx.s1
  obtain ⟨p2, q2, rfl, _⟩ := id hx.s2
  obtain ⟨p3, q3, rfl⟩ := id hx.s3
  rw [rpV]
  obtain ⟨P, hP⟩ := pstr x.root
  rw [hP.out.1]
  have hxl := hw.lt
  have bA := (Below.refl w.heap.size w).alloc (Nat.le_refl _) (.cells #[.int .i64 x.status, .int .i64 x.size, .int .i64 x.a, .int .i64 x.b, .string P, .slice p1 x.hs.length q1, .slice p2 x.ent.length q2, .slice p3 x.n q3] 45)
  have rA := heap_alloc_new w (.cells #[.int .i64 x.status, .int .i64 x.size, .int .i64 x.a, .int .i64 x.b, .string P, .slice p1 x.hs.length q1, .slice p2 x.ent.length q2, .slice p3 x.n q3] 45)
  have zA := size_alloc w (.cells #[.int .i64 x.status, .int .i64 x.size, .int .i64 x.a, .int .i64 x.b, .string P, .slice p1 x.hs.length q1, .slice p2 x.ent.length q2, .slice p3 x.n q3] 45)
  have i1 := xwByte_any xw S 0 (K : Int) _ (hw.below bA) (by omega)
  rw [show ((K : Int)).toNat = K from Int.toNat_natCast K] at i1
  have hbe : byteErr (K : Int) = 0 := by rw [byteErr, if_neg (by omega)]
  have hbs : byteErr x.status = 0 := by rw [byteErr, if_neg (by omega)]
  have HBE := hid hbe
  have HBS := hid hbs
  have RA := hid rA
  have BA := hid bA
  have i0 := fun w => told17_any (K : Int) w
  obtain ⟨OUT, hOUT⟩ : ∃ O, Hid (S ++ [UInt8.ofNat K] ++ [UInt8.ofNat x.status.toNat] = O) := ⟨_, rfl⟩
  rw [hOUT.out]
  clear hw bA rA hbe hbs hx h1
  rcases hs with hs | rfl
  · obtain ⟨WD, hWD⟩ := pstr (tw (K : Int))
    rw [hWD.out.1] at i0
    have y0 : (x.status == 0) = false := by simp [hs]
    clear hs hWD
    go_enter Tryz.func44, Tryz.ntmps44
    go_wp2_with (go_at_call 69; fail)
    go_at_call 69
    refine i1.mono ?_
    intro e w1 hp
    obtain ⟨he, g1, g2⟩ := RPut.ok hp HBE.out
    subst he
    have z1 : w.heap.size < w1.heap.size := by have := g2.size; omega
    have R1 := hid ((g2.block w.heap.size (by omega) (by omega)).trans RA.out)
    obtain ⟨c0, c1, c2, c3, c4, c5, c6, c7⟩ := rp_cells R1.out
    have K1 : Hid (Keep (fun k => k = xw) w w1) := (Keep.ofBelow BA.out : Keep (fun k => k = xw) w _).trans g2 (fun _ _ e => e)
    have i2 := xwByte_any xw _ 0 x.status w1 g1 (by rw [List.length_append]; simp; omega)
    clear hp g1 g2 i1
    go_wp2_with (go_at_call 69; fail)
    go_at_call 69
    refine i2.mono ?_
    intro e w2 hp
    obtain ⟨he, g1, g2⟩ := RPut.ok hp HBS.out
    subst he
    obtain ⟨c0, c1, c2, c3, c4, c5, c6, c7⟩ := rp_cells ((g2.block w.heap.size z1 (by omega)).trans R1.out)
    have K2 : Hid (Keep (fun k => k = xw) w w2) := K1.out.trans g2 (fun _ _ e => e)
    have G2 := hid g1
    clear hp g1 g2 i2
    go_wp2_with (go_at_call 42; refine (i0 _).mono ?_; rintro e w' ⟨rfl, hw'⟩; rw [hw']; clear hw' w')
    go_loopw [7] (fun i w' => i = .int .i64 0 ∧ w' = w2) (fun _ _ => 0)
    case atStart => exact ⟨rfl, rfl⟩
    case round =>
      obtain ⟨rfl, rfl⟩ := hrel
      by_cases hz : (0 : Int) < (WD.size : Int)
      · go_wp2
        go_end0
        exact ⟨rfl, by rw [← hOUT.out]; exact G2.out, K2.out⟩
      · go_wp2
        go_end0
        exact ⟨rfl, by rw [← hOUT.out]; exact G2.out, K2.out⟩
  · rw [show sv (tw ((11 : Nat) : Int)) = .string ⟨#[45]⟩ from rfl] at i0
    by_cases hs : x.status = 0
    · have y0 : (x.status == 0) = true := by simp [hs]
      clear hs
      go_enter Tryz.func44, Tryz.ntmps44
      go_wp2_with (go_at_call 69; fail)
      go_at_call 69
      refine i1.mono ?_
      intro e w1 hp
      obtain ⟨he, g1, g2⟩ := RPut.ok hp HBE.out
      subst he
      have z1 : w.heap.size < w1.heap.size := by have := g2.size; omega
      have R1 := hid ((g2.block w.heap.size (by omega) (by omega)).trans RA.out)
      obtain ⟨c0, c1, c2, c3, c4, c5, c6, c7⟩ := rp_cells R1.out
      have K1 : Hid (Keep (fun k => k = xw) w w1) := (Keep.ofBelow BA.out : Keep (fun k => k = xw) w _).trans g2 (fun _ _ e => e)
      have i2 := xwByte_any xw _ 0 x.status w1 g1 (by rw [List.length_append]; simp; omega)
      clear hp g1 g2 i1
      go_wp2_with (go_at_call 69; fail)
      go_at_call 69
      refine i2.mono ?_
      intro e w2 hp
      obtain ⟨he, g1, g2⟩ := RPut.ok hp HBS.out
      subst he
      obtain ⟨c0, c1, c2, c3, c4, c5, c6, c7⟩ := rp_cells ((g2.block w.heap.size z1 (by omega)).trans R1.out)
      have K2 : Hid (Keep (fun k => k = xw) w w2) := K1.out.trans g2 (fun _ _ e => e)
      have G2 := hid g1
      clear hp g1 g2 i2
      go_wp2_with (go_at_call 42; refine (i0 _).mono ?_; rintro e w' ⟨rfl, hw'⟩; rw [hw']; clear hw' w')
      go_loopw [7] (fun i w' => ∃ k : Nat, k ≤ 1 ∧ i = .int .i64 k ∧ w' = w2) (fun i _ => 1 - (intOf i).toNat)
      case atStart => exact ⟨0, by omega, rfl, rfl⟩
      case round =>
        obtain ⟨k, hk, rfl, rfl⟩ := hrel
        by_cases h0 : k = 0
        · subst h0
          go_wp2
          exact ⟨⟨1, by omega, by go_num, (by first | rfl | trivial)⟩, by simp [intOf]⟩
        · obtain rfl : k = 1 := by omega
          go_wp2
          go_end0
          exact ⟨rfl, by rw [← hOUT.out]; exact G2.out, K2.out⟩
    · have y0 : (x.status == 0) = false := by simp [hs]
      clear hs
      go_enter Tryz.func44, Tryz.ntmps44
      go_wp2_with (go_at_call 69; fail)
      go_at_call 69
      refine i1.mono ?_
      intro e w1 hp
      obtain ⟨he, g1, g2⟩ := RPut.ok hp HBE.out
      subst he
      have z1 : w.heap.size < w1.heap.size := by have := g2.size; omega
      have R1 := hid ((g2.block w.heap.size (by omega) (by omega)).trans RA.out)
      obtain ⟨c0, c1, c2, c3, c4, c5, c6, c7⟩ := rp_cells R1.out
      have K1 : Hid (Keep (fun k => k = xw) w w1) := (Keep.ofBelow BA.out : Keep (fun k => k = xw) w _).trans g2 (fun _ _ e => e)
      have i2 := xwByte_any xw _ 0 x.status w1 g1 (by rw [List.length_append]; simp; omega)
      clear hp g1 g2 i1
      go_wp2_with (go_at_call 69; fail)
      go_at_call 69
      refine i2.mono ?_
      intro e w2 hp
      obtain ⟨he, g1, g2⟩ := RPut.ok hp HBS.out
      subst he
      obtain ⟨c0, c1, c2, c3, c4, c5, c6, c7⟩ := rp_cells ((g2.block w.heap.size z1 (by omega)).trans R1.out)
      have K2 : Hid (Keep (fun k => k = xw) w w2) := K1.out.trans g2 (fun _ _ e => e)
      have G2 := hid g1
      clear hp g1 g2 i2
      go_wp2_with (go_at_call 42; refine (i0 _).mono ?_; rintro e w' ⟨rfl, hw'⟩; rw [hw']; clear hw' w')
      go_loopw [7] (fun i w' => i = .int .i64 0 ∧ w' = w2) (fun _ _ => 0)
      case atStart => exact ⟨rfl, rfl⟩
      case round =>
        obtain ⟨rfl, rfl⟩ := hrel
        go_wp2
        go_end0
        exact ⟨rfl, by rw [← hOUT.out]; exact G2.out, K2.out⟩
set_option maxRecDepth 100000 in
set_option maxHeartbeats 8000000 in
theorem layReply17_done {w : World} {hi xw K : Nat} {x : Part} {l : List Part} {p1 p2 p3 : Option Addr} {q1 q2 q3 : Nat} {S out : List UInt8} (hw : RWr w xw S 0) (hhi : hi ≤ xw) (hx : Ap w hi x (.slice p1 x.hs.length q1) (.slice p2 x.ent.length q2) (.slice p3 x.n q3)) (hf : PFit x) (hu : Pq w hi (.slice p3 x.n q3) l) (hn : x.n = l.length)
    (hK : K ≤ 12) (h0 : K ≠ 0) (h11 : K ≠ 11) (hst : x.status = 0) (hq : lFrs x (lParts l) (rflds K) (.ok (S ++ [UInt8.ofNat K] ++ [0]), false) = (.ok out, false)) (ho : out.length ≤ 1000000000000000) :
    Calls Tryz.prog 44 #[.pointer (some ⟨xw, 0, none⟩), .int .i64 (K : Int), rpV x (.slice p1 x.hs.length q1) (.slice p2 x.ent.length q2) (.slice p3 x.n q3)] w (DL w xw out) := by
  have hxl := hw.lt
  rw [rpV]
  obtain ⟨P, hP⟩ := pstr x.root
  rw [hP.out.1]
  have hPd : P.data.toList = x.root := by
    have h := hP.out.1
    unfold sv at h
    injection h with h
    rw [← h, sv_data]
  have HPd0 := hid hPd
  have hPz0 := hP.out.2.2
  rw [hn] at hx hu ⊢
  have bA := (Below.refl w.heap.size w).alloc (Nat.le_refl _) (.cells #[.int .i64 x.status, .int .i64 x.size, .int .i64 x.a, .int .i64 x.b, .string P, .slice p1 x.hs.length q1, .slice p2 x.ent.length q2, .slice p3 l.length q3] 45)
  have rA := heap_alloc_new w (.cells #[.int .i64 x.status, .int .i64 x.size, .int .i64 x.a, .int .i64 x.b, .string P, .slice p1 x.hs.length q1, .slice p2 x.ent.length q2, .slice p3 l.length q3] 45)
  have zA := size_alloc w (.cells #[.int .i64 x.status, .int .i64 x.size, .int .i64 x.a, .int .i64 x.b, .string P, .slice p1 x.hs.length q1, .slice p2 x.ent.length q2, .slice p3 l.length q3] 45)
  have hS0 := frs_len_le x l hn _ hq
  rw [List.length_append, List.length_append, List.length_singleton, List.length_singleton] at hS0
  have i1 := xwByte_any xw S 0 (K : Int) _ (hw.below bA) (by omega)
  rw [show ((K : Int)).toNat = K from Int.toNat_natCast K] at i1
  have hbe : byteErr (K : Int) = 0 := by rw [byteErr, if_neg (by omega)]
  have hbs : byteErr x.status = 0 := by rw [byteErr, if_neg (by omega)]
  have hb0 : UInt8.ofNat x.status.toNat = 0 := by rw [hst]; rfl
  have hfw := tw_rflds hK h0 h11
  have i2 := fun w => told17_any (K : Int) w
  obtain ⟨WD, hWD⟩ : ∃ WD, Hid (sv (tw (K : Int)) = .string WD) := ⟨_, rfl⟩
  rw [hWD.out] at i2
  have hWd : WD.data.toList = (rflds K).map rlett := by
    have h := hWD.out
    unfold sv at h
    injection h with h
    rw [← h, sv_data, hfw]
  have hWz : WD.size = (rflds K).length := by rw [← data_length, hWd, List.length_map]
  have hfl := rflds_len K
  have y0 : (x.status == 0) = true := by simp [hst]
  obtain ⟨fs, hfs⟩ : ∃ fs, rflds K = fs := ⟨_, rfl⟩
  rw [hfs] at hq hWd hWz hfl
  have HQ := hid hq
  have HWd := hid hWd
  have BA := hid bA
  have HX := hid hx
  have HU := hid hu
  have HF := hid hf
  have HBE := hid hbe
  have HBS := hid hbs
  have HB0 := hid hb0
  have RA := hid rA
  have HNn := hid hn
  clear hn hw bA rA hx hu hf hq hWd hfw hfs hbe hbs hst hb0 hPd hK h0 h11
  go_enter Tryz.func44, Tryz.ntmps44
  go_wp2_with (go_at_call 69; fail)
  go_at_call 69
  refine i1.mono ?_
  intro e w0 hp
  obtain ⟨he, g1, g2⟩ := RPut.ok hp HBE.out
  subst he
  have z0 : w.heap.size < w0.heap.size := by have := g2.size; omega
  have R0 := hid ((g2.block w.heap.size (by omega) (by omega)).trans RA.out)
  obtain ⟨c0, c1, c2, c3, c4, c5, c6, c7⟩ := rp_cells R0.out
  have K0 : Hid (Keep (fun k => k = xw) w w0) := (Keep.ofBelow BA.out : Keep (fun k => k = xw) w _).trans g2 (fun _ _ e => e)
  have i3 := xwByte_any xw _ 0 x.status w0 g1 (by rw [List.length_append]; simp; omega)
  rw [HB0.out] at i3
  clear hp g1 g2 i1
  go_wp2_with (go_at_call 69; fail)
  go_at_call 69
  refine i3.mono ?_
  intro e w1 hp
  obtain ⟨he, g1, g2⟩ := RPut.ok hp HBS.out
  subst he
  have R1 := hid ((g2.block w.heap.size z0 (by omega)).trans R0.out)
  obtain ⟨c0, c1, c2, c3, c4, c5, c6, c7⟩ := rp_cells R1.out
  have K1 : Hid (Keep (fun k => k = xw) w w1) := K0.out.trans g2 (fun _ _ e => e)
  have G1 := hid g1
  have hz1 : w.heap.size < w1.heap.size := by have := g2.size; omega
  clear hp g1 g2 i3
  go_wp2_with (go_at_call 42; refine (i2 _).mono ?_; rintro e w' ⟨rfl, hw'⟩; rw [hw']; clear hw' w')
  clear c0 c1 c2 c3 c4 c5 c6 c7
  go_loopw [7] (fun i w' => ∃ (k : Nat) (T : List UInt8), k ≤ fs.length ∧ i = .int .i64 k ∧ Hid (lFrs x (lParts l) (fs.drop k) (.ok T, false) = (.ok out, false)) ∧ Hid (RWr w' xw T 0) ∧ Hid (Keep (fun k => k = xw) w1 w')) (fun i _ => fs.length - (intOf i).toNat)
  case atStart => exact ⟨0, _, by omega, rfl, HQ, G1, hid (Keep.refl _ _)⟩
  case round =>
    obtain ⟨k, Tk, hk, rfl, hL, hR, hK⟩ := hrel
    obtain ⟨d0, d1, d2, d3, d4, d5, d6, d7⟩ := rp_cells ((hK.out.block w.heap.size hz1 (by omega)).trans R1.out)
    have kw : Keep (fun k => k = xw) w wr := K1.out.trans hK.out (fun _ _ e => e)
    have bw : Below hi w wr := kw.below (by omega) (fun j hj e => by omega)
    by_cases hlt : k < fs.length
    · have b0 : (k : Int) < (WD.size : Int) := by omega
      obtain ⟨xb, hxb, hx2, hi1, hi2⟩ := index_any WD (k : Int) k rfl (by omega)
      have hxe : xb = (rlett fs[k]).toNat := by
        rw [hxb.out, HWd.out, List.getD_eq_getElem?_getD, List.getElem?_map, List.getElem?_eq_getElem hlt]; rfl
      have hL2 := hL.out
      rw [List.drop_eq_getElem_cons hlt] at hL2
      have hL3 : lFrs x (lParts l) (fs.drop (k + 1)) (lFr x (lParts l) fs[k] (.ok Tk, false)) = (.ok out, false) := hL2
      obtain ⟨M, hM⟩ := (abs_frs x (lParts l) (abs_lParts l) (fs.drop (k + 1))).mid hL3
      rw [hM] at hL3
      have hTk := frs_len_le x l HNn.out _ hL.out
      have HN := hid hL3
      clear hL2 hL3 hxb
      generalize fs[k] = g at *
      have hKK : ∀ w', RWr w' xw M 0 → Keep (fun k => k = xw) wr w' → Hid (RWr w' xw M 0) ∧ Hid (Keep (fun k => k = xw) w1 w') := fun w' h1 h2 => ⟨h1, hK.out.trans h2 (fun _ _ e => e)⟩
      have HKK := hid hKK
      clear hKK
      subst hxe
      cases g with
      | entries =>
        have hM : lif (decide ((0 : Int) ≤ (x.ent.length : Int))) (textsErr x.ent 4096 1000) (wrTexts x.ent) (.ok Tk, false) = (.ok M, false) := hM
        obtain ⟨_, e2, rfl⟩ := lif_ok hM
        obtain ⟨n1, n2⟩ := texts_totR e2
        have i3 := xwTexts_any xw Tk 0 _ x.ent 4096 1000 (by omega) (by omega) wr (HX.out.l2.slc HX.out.s2 bw) hR.out (by omega)
        have HE := hid e2
        clear hM e2 n1 n2
        go_wp2_with (go_at_call 70; refine i3.mono ?_; intro e w3 hp; obtain ⟨he, g1, g2⟩ := RPut.ok hp HE.out; subst he; obtain ⟨X1, X2⟩ := HKK.out w3 g1 g2; clear hp g1 g2)
        exact ⟨⟨k + 1, _, by omega, by go_num, HN, X1, X2⟩, by simp [intOf]; omega⟩
      | a =>
        obtain ⟨_, e2, rfl⟩ := lif_ok hM
        have i3 := xwNum_any xw Tk 0 x.a HF.out.k3.1 HF.out.k3.2 wr hR.out (by omega)
        have HE := hid e2
        clear hM e2
        go_wp2_with (go_at_call 71; refine i3.mono ?_; intro e w3 hp; obtain ⟨he, g1, g2⟩ := RPut.ok hp HE.out; subst he; obtain ⟨X1, X2⟩ := HKK.out w3 g1 g2; clear hp g1 g2)
        exact ⟨⟨k + 1, _, by omega, by go_num, HN, X1, X2⟩, by simp [intOf]; omega⟩
      | over =>
        obtain ⟨_, e2, rfl⟩ := lif_ok hM
        have i3 := xwByte_any xw Tk 0 x.b wr hR.out (by omega)
        have HE := hid e2
        clear hM e2
        go_wp2_with (go_at_call 69; refine i3.mono ?_; intro e w3 hp; obtain ⟨he, g1, g2⟩ := RPut.ok hp HE.out; subst he; obtain ⟨X1, X2⟩ := HKK.out w3 g1 g2; clear hp g1 g2)
        exact ⟨⟨k + 1, _, by omega, by go_num, HN, X1, X2⟩, by simp [intOf]; omega⟩
      | size =>
        obtain ⟨_, e2, rfl⟩ := lif_ok hM
        have i3 := xwNum_any xw Tk 0 x.size HF.out.k2.1 HF.out.k2.2 wr hR.out (by omega)
        have HE := hid e2
        clear hM e2
        go_wp2_with (go_at_call 71; refine i3.mono ?_; intro e w3 hp; obtain ⟨he, g1, g2⟩ := RPut.ok hp HE.out; subst he; obtain ⟨X1, X2⟩ := HKK.out w3 g1 g2; clear hp g1 g2)
        exact ⟨⟨k + 1, _, by omega, by go_num, HN, X1, X2⟩, by simp [intOf]; omega⟩
      | root =>
        obtain ⟨e1, e2, rfl⟩ := lif_ok hM
        have e1 := of_decide_eq_true e1
        have i3 := xwRaw_any xw Tk 0 P wr hR.out (by omega)
        rw [HPd0.out] at i3
        have HE := hid e2
        clear hM e1 e2
        go_wp2_with (go_at_call 79; refine i3.mono ?_; intro e w3 hp; obtain ⟨he, g1, g2⟩ := RPut.ok hp HE.out; subst he; obtain ⟨X1, X2⟩ := HKK.out w3 g1 g2; clear hp g1 g2)
        exact ⟨⟨k + 1, _, by omega, by go_num, HN, X1, X2⟩, by simp [intOf]; omega⟩
      | hashes =>
        have hM : lif true (hashesErr x.hs 32768) (wrHashes x.hs) (.ok Tk, false) = (.ok M, false) := hM
        obtain ⟨_, e2, rfl⟩ := lif_ok hM
        obtain ⟨n1, n2⟩ := hashes_tot e2
        have i3 := xwHashes_any xw Tk 0 _ x.hs 32768 (by omega) (by omega) wr (HX.out.l1.slc HX.out.s1 bw) hR.out (by omega)
        have HE := hid e2
        clear hM e2 n1 n2
        go_wp2_with (go_at_call 80; refine i3.mono ?_; intro e w3 hp; obtain ⟨he, g1, g2⟩ := RPut.ok hp HE.out; subst he; obtain ⟨X1, X2⟩ := HKK.out w3 g1 g2; clear hp g1 g2)
        exact ⟨⟨k + 1, _, by omega, by go_num, HN, X1, X2⟩, by simp [intOf]; omega⟩
      | parts =>
        have hA : lParts l (.ok Tk, false) = (.ok M, false) := hM
        rw [lParts] at hA
        split at hA
        · rename_i hwl
          have hwl2 := wi_iff.1 hwl
          have hMo := frs_len_le x l HNn.out _ HN.out
          obtain ⟨M1, hM1⟩ := (abs_partsl l).mid hA
          rw [hM1] at hA
          obtain ⟨_, e2, rfl⟩ := lif_ok hM1
          have i3 := xwNum_any xw Tk 0 (l.length : Int) (by omega) (by omega) wr hR.out (by omega)
          have HE := hid e2
          have HA := hid hA
          have HMo := hid hMo
          clear hM hM1 e2 hA hwl hMo
          go_wp2_with (first
            | (go_at_call 71; refine i3.mono ?_; intro e w3 hp; obtain ⟨he, g1, g2⟩ := RPut.ok hp HE.out; subst he; have G3 := hid g1; have K3 := hid g2; clear hp g1 g2))
          clear i3
          generalize wr = wo at *
          go_loopw [8] (fun i w' => ∃ (j : Nat) (U : List UInt8), j ≤ l.length ∧ i = .int .i64 j ∧ Hid ((l.drop j).foldl (fun s x => lPart x s) (.ok U, false) = (.ok M, false)) ∧ Hid (RWr w' xw U 0) ∧ Hid (Keep (fun k => k = xw) wo w')) (fun i _ => l.length - (intOf i).toNat)
          case atStart => exact ⟨0, _, by omega, rfl, HA, G3, K3⟩
          case round =>
            obtain ⟨j, U, hj, rfl, hU, hRj, hKj⟩ := hrel
            have kj : Keep (fun k => k = xw) w1 wr := hK.out.trans hKj.out (fun _ _ e => e)
            obtain ⟨f0, f1, f2, f3, f4, f5, f6, f7⟩ := rp_cells ((kj.block w.heap.size hz1 (by omega)).trans R1.out)
            have kw2 : Keep (fun k => k = xw) w wr := K1.out.trans kj (fun _ _ e => e)
            have bw2 : Below hi w wr := kw2.below (by omega) (fun j hj e => by omega)
            by_cases hjl : j < l.length
            · have b1 : (j : Int) < (l.length : Int) := by omega
              have hU2 := hU.out
              rw [List.drop_eq_getElem_cons hjl] at hU2
              have hU3 : (l.drop (j + 1)).foldl (fun s x => lPart x s) (lPart l[j] (.ok U, false)) = (.ok M, false) := hU2
              obtain ⟨V, hV⟩ := (abs_partsl (l.drop (j + 1))).mid hU3
              rw [hV] at hU3
              have hUl := parts_len_le _ hU.out
              obtain ⟨pa, ca, he, a4⟩ := HU.out.bl bw2
              injection he with he1 he2 he3
              obtain ⟨y, ey, hy, ul, ue, ua, e0, e1, e2, e3, e4, e5, e6, e7, n1, n2, t1, t2, t3⟩ := a4 j l[j] (List.getElem?_eq_getElem hjl)
              rw [← he1] at ey
              clear he1 he2 he3 a4
              rw [← Go.Deep.add_add] at e1 e2 e3 e4 e5 e6 e7
              replace e1 : wr.cell? ⟨(y.add (j * 8)).block, (y.add (j * 8)).off + 1, none⟩ = _ := e1
              replace e2 : wr.cell? ⟨(y.add (j * 8)).block, (y.add (j * 8)).off + 2, none⟩ = _ := e2
              replace e3 : wr.cell? ⟨(y.add (j * 8)).block, (y.add (j * 8)).off + 3, none⟩ = _ := e3
              replace e4 : wr.cell? ⟨(y.add (j * 8)).block, (y.add (j * 8)).off + 4, none⟩ = _ := e4
              replace e5 : wr.cell? ⟨(y.add (j * 8)).block, (y.add (j * 8)).off + 5, none⟩ = _ := e5
              replace e6 : wr.cell? ⟨(y.add (j * 8)).block, (y.add (j * 8)).off + 6, none⟩ = _ := e6
              replace e7 : wr.cell? ⟨(y.add (j * 8)).block, (y.add (j * 8)).off + 7, none⟩ = _ := e7
              have i4 := layPart17_any hRj.out hhi ⟨n1, n2, t1, t2, t3⟩ hV (by have := HMo.out; omega)
              rw [rpV] at i4
              obtain ⟨PZ, hPZ⟩ := pstr l[j].root
              rw [hPZ.out.1] at i4 e4
              obtain ⟨pp1, qq1, rfl, _⟩ := t1
              obtain ⟨pp2, qq2, rfl, _⟩ := t2
              obtain ⟨pp3, qq3, rfl⟩ := t3
              subst ey
              have HU3 := hid hU3
              clear hU2 hU3 hV hUl n1 n2 hPZ
              generalize l[j] = z at *
              go_wp2_with (go_at_call 81; refine i4.mono ?_; rintro e w5 ⟨rfl, g1, g2⟩; have G5 := hid g1; have K5 := hid (hKj.out.trans g2 (fun _ _ e => e)); clear g1 g2)
              exact ⟨⟨j + 1, V, by omega, by go_num, HU3, G5, K5⟩, by simp [intOf]; omega⟩
            · have b1 : ¬ (j : Int) < (l.length : Int) := by omega
              obtain rfl : j = l.length := by omega
              have hU2 := hU.out
              rw [List.drop_length] at hU2
              have hUM : U = M := by
                have h := (Prod.mk.inj hU2).1
                injection h
              subst hUM
              obtain ⟨X1, X2⟩ := HKK.out wr hRj.out hKj.out
              clear hU2
              go_wp2
              exact ⟨⟨k + 1, U, by omega, by go_num, HN, X1, X2⟩, by simp [intOf]; omega⟩
        · cases (Prod.mk.inj hA).2
    · have b0 : ¬ (k : Int) < (WD.size : Int) := by omega
      obtain rfl : k = fs.length := by omega
      have hL2 := hL.out
      rw [List.drop_length] at hL2
      have hTo : Tk = out := by
        have h := (Prod.mk.inj hL2).1
        injection h
      subst hTo
      clear hL2
      go_wp2
      go_end0
      exact ⟨rfl, hR.out, kw⟩
theorem layReply17_any {w : World} {hi xw K : Nat} {x : Part} {l : List Part} {uh ue up : Value} {S out : List UInt8} (hw : RWr w xw S 0) (hhi : hi ≤ xw) (hx : Ap w hi x uh ue up) (hf : PFit x) (hu : Pq w hi up l) (hn : x.n = l.length) (hK : K ≤ 12)
    (hq : lReply (K : Int) x l (.ok S, false) = (.ok out, false)) (ho : out.length ≤ 1000000000000000) :
    Calls Tryz.prog 44 #[.pointer (some ⟨xw, 0, none⟩), .int .i64 (K : Int), rpV x uh ue up] w (DL w xw out) := by
  rw [lReply, mark_eq (show wi (K : Int) (K : Int) (K : Int) = true from decide_eq_true (by omega)) (by omega) (by omega), Int.toNat_natCast] at hq
  obtain ⟨h1, h2⟩ := tail_ok (by unfold leastOf; split <;> omega) hq
  have hs := wi_iff.1 h1
  have hl : 0 ≤ leastOf (K : Int) := by unfold leastOf; split <;> omega
  rcases h2 with ⟨a, b, _⟩ | ⟨a, b, _⟩
  · have hK0 : K ≠ 0 := fun e => by
      subst e
      rw [a, leastOf] at hs
      simp at hs
    by_cases h11 : K = 11
    · subst h11
      have b : out = S ++ [UInt8.ofNat 11] ++ [0] := by
        have h := (Prod.mk.inj b).1
        injection h with h
        exact h.symm
      have := layReply17_not (K := 11) hw hx (by omega) ⟨by omega, hs.2⟩ (.inr rfl) (by rw [b, List.length_append, List.length_append] at ho; omega)
      rw [show UInt8.ofNat x.status.toNat = 0 from by rw [a]; rfl] at this
      rw [b]
      exact this
    · obtain ⟨p1, q1, rfl, _⟩ := id hx.s1
      obtain ⟨p2, q2, rfl, _⟩ := id hx.s2
      obtain ⟨p3, q3, rfl⟩ := id hx.s3
      exact layReply17_done hw hhi hx hf hu hn hK hK0 h11 a b ho
  · rw [b]
    exact layReply17_not hw hx hK ⟨by omega, hs.2⟩ (.inl a) (by rw [b, List.length_append, List.length_append] at ho; omega)
end Msg
end Go.Proofs.YtmhgdcfmfcjagaaGreatDoor
