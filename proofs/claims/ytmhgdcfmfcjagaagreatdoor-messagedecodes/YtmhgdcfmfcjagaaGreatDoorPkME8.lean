import Derived.Test.YtmhgdcfmfcjagaaGreatDoorPkME6
import Derived.Test.YtmhgdcfmfcjagaaGreatDoorPkU3
import Derived.Test.YtmhgdcfmfcjagaaGreatDoorPkMW7
import Derived.Test.YtmhgdcfmfcjagaaGreatDoorPkMW10
namespace Go.Proofs.YtmhgdcfmfcjagaaGreatDoor
open Go.RowKit Cod
namespace Msg

/-- the document's letter of a field -/
def lett : Fq → UInt8
  | .entries => 101
  | .a => 97
  | .b => 98
  | .size => 115
  | .indices => 105
  | .heads => 104
  | .asks => 103
theorem fw_flds {k : Int} (h1 : 1 ≤ k) (h2 : k ≤ 12) (h3 : k ≠ 2) : fw k = (flds k.toNat).map lett := by
  obtain ⟨n, rfl⟩ := Int.eq_ofNat_of_zero_le (show 0 ≤ k by omega)
  have a1 : 1 ≤ n := by omega
  have a2 : n ≤ 12 := by omega
  have a3 : n ≠ 2 := by omega
  match n, a1, a2, a3 with
  | 1, _, _, _ | 3, _, _, _ | 4, _, _, _ | 5, _, _, _ | 6, _, _, _ | 7, _, _, _ | 8, _, _, _ | 9, _, _, _ | 10, _, _, _ | 11, _, _, _ | 12, _, _, _ => rfl
/-- what lay leaves -/
def DL (w : World) (x : Nat) (out : List UInt8) (e : Ending) (w' : World) : Prop := e = .returned (.tuple #[]) ∧ RWr w' x out 0 ∧ Keep (fun k => k = x) w w'
theorem RPut.ok {w w' : World} {x : Nat} {S l : List UInt8} {e : Int} {r : Ending} (h : RPut w x S 0 e l r w') (he : e = 0) : r = .returned (.tuple #[]) ∧ RWr w' x (S ++ l) 0 ∧ Keep (fun k => k = x) w w' := by
  obtain ⟨h1, h2, h3⟩ := h
  subst he
  rw [if_pos rfl, if_pos rfl] at h2
  exact ⟨h1, h2, Keep.ofBut h3 rfl⟩
theorem total_le : ∀ (ps : List (List UInt8)), (∀ p ∈ ps, p.length ≤ 4096) → total ps ≤ ps.length * 4096
  | [], _ => Nat.zero_le _
  | p :: ps, h => by
    have h1 := total_le ps (fun q hq => h q (by simp [hq]))
    have h2 : p.length ≤ 4096 := h p (by simp)
    unfold total at h1 ⊢
    rw [List.flatten_cons, List.length_append, List.length_cons, Nat.add_mul]
    omega
theorem texts_tot {ps : List (List UInt8)} (h : textsErr ps 32 4096 = 0) : ps.length ≤ 32 ∧ total ps ≤ 131072 := by
  rw [textsErr] at h
  split at h
  · cases h
  split at h
  · cases h
  split at h
  · rename_i a1 a2 a3
    have hn : ps.length ≤ 32 := by omega
    have := total_le ps (fun p hp => by have := a3 p hp; omega)
    exact ⟨hn, by have := Nat.mul_le_mul_right 4096 hn; omega⟩
  · cases h
theorem flds_len_le (x : Ask) (l : List Ask) (hn : x.n = l.length) (fs : List Fq) {S out : List UInt8} (h : lFlds x (lAsks l) fs (.ok S, false) = (.ok out, false)) : S.length ≤ out.length := by
  obtain ⟨bs, e, _⟩ := flds_back x (lAsks l) tAsks l (abs_lAsks l) (asks_back l) hn fs S out h
  rw [e, List.length_append]
  omega
theorem asks_len_le (l : List Ask) {S out : List UInt8} (h : l.foldl (fun s x => lAsk x s) (.ok S, false) = (.ok out, false)) : S.length ≤ out.length := by
  obtain ⟨bs, e, _⟩ := many_back l S out h
  rw [e, List.length_append]
  omega
end Msg
end Go.Proofs.YtmhgdcfmfcjagaaGreatDoor

namespace Go.Proofs.YtmhgdcfmfcjagaaGreatDoor
open Go.RowKit Cod
namespace Msg

/-- the elements are laid down so -/
def LayEl (w : World) (hi xw : Nat) (l : List Ask) : Prop :=
  ∀ (k : Nat) (hk : k < l.length) (w' : World) (S out : List UInt8) (ul ue ua : Value), RWr w' xw S 0 → Below hi w w' → lAsk l[k] (.ok S, false) = (.ok out, false) → out.length ≤ 2000000 → Ak w' hi l[k] ul ue ua →
    Calls Tryz.prog 35 #[.pointer (some ⟨xw, 0, none⟩), akV l[k] ul ue ua] w' (DL w' xw out)
set_option maxRecDepth 100000 in
set_option maxHeartbeats 8000000 in
theorem lay17_gen {w : World} {hi xw : Nat} {x : Ask} {l : List Ask} {p1 p2 p3 : Option Addr} {q1 q2 q3 : Nat} {S out : List UInt8} (hw : RWr w xw S 0) (hhi : hi ≤ xw) (hx : Ak w hi x (.slice p1 x.list.length q1) (.slice p2 x.ent.length q2) (.slice p3 x.n q3)) (hf : Fit x) (hu : Aq w hi (.slice p3 x.n q3) l) (hn : x.n = l.length)
    (hk1 : 1 ≤ x.kind) (hk2 : x.kind ≤ 12) (hk3 : x.kind ≠ 2) (hq : lFlds x (lAsks l) (flds x.kind.toNat) (.ok (S ++ [UInt8.ofNat x.kind.toNat]), false) = (.ok out, false)) (ho : out.length ≤ 2000000) (hel : LayEl w hi xw l) :
    Calls Tryz.prog 35 #[.pointer (some ⟨xw, 0, none⟩), .agg #[.int .i64 x.kind, .int .i64 x.a, .int .i64 x.b, .int .i64 x.size, .slice p1 x.list.length q1, .slice p2 x.ent.length q2, .slice p3 x.n q3]] w (DL w xw out) := by
  have hxl := hw.lt
  rw [hn] at hx hu ⊢
  have bA := (Below.refl w.heap.size w).alloc (Nat.le_refl _) (.cells #[.int .i64 x.kind, .int .i64 x.a, .int .i64 x.b, .int .i64 x.size, .slice p1 x.list.length q1, .slice p2 x.ent.length q2, .slice p3 l.length q3] 26)
  have rA := heap_alloc_new w (.cells #[.int .i64 x.kind, .int .i64 x.a, .int .i64 x.b, .int .i64 x.size, .slice p1 x.list.length q1, .slice p2 x.ent.length q2, .slice p3 l.length q3] 26)
  have zA := size_alloc w (.cells #[.int .i64 x.kind, .int .i64 x.a, .int .i64 x.b, .int .i64 x.size, .slice p1 x.list.length q1, .slice p2 x.ent.length q2, .slice p3 l.length q3] 26)
  have hS0 := flds_len_le x l hn _ hq
  rw [List.length_append, List.length_singleton] at hS0
  have i1 := xwByte_any xw S 0 x.kind _ (hw.below bA) (by omega)
  have hbe : byteErr x.kind = 0 := by rw [byteErr, if_neg (by omega)]
  have hfw := fw_flds hk1 hk2 hk3
  have i2 := fun w => fields17_any x.kind w
  obtain ⟨P, hP⟩ : ∃ P, Hid (sv (fw x.kind) = .string P) := ⟨_, rfl⟩
  rw [hP.out] at i2
  have hPd : P.data.toList = (flds x.kind.toNat).map lett := by
    have h := hP.out
    unfold sv at h
    injection h with h
    rw [← h, sv_data, hfw]
  have hPz : P.size = (flds x.kind.toNat).length := by rw [← data_length, hPd, List.length_map]
  have hfl := flds_len x.kind.toNat
  obtain ⟨fs, hfs⟩ : ∃ fs, flds x.kind.toNat = fs := ⟨_, rfl⟩
  rw [hfs] at hq hPd hPz hfl
  have HQ := hid hq
  have HPd := hid hPd
  have HW := hid hw
  have BA := hid bA
  have HX := hid hx
  have HU := hid hu
  have HF := hid hf
  have HEL := hid hel
  have HBE := hid hbe
  have RA := hid rA
  have HNn := hid hn
  clear hn hw bA rA hx hu hf hel hq hPd hfw hfs hbe
  go_enter Tryz.func35, Tryz.ntmps35
  go_wp2_with (go_at_call 69; fail)
  go_at_call 69
  refine i1.mono ?_
  intro e w1 hp
  obtain ⟨he, g1, g2⟩ := RPut.ok hp HBE.out
  subst he
  have G1 := hid g1
  have G2 := hid g2
  have R1 := hid ((g2.block w.heap.size (by rw [size_alloc]; omega) (by omega)).trans RA.out)
  obtain ⟨c0, _⟩ := rq_cells R1.out
  clear hp g1 g2
  go_wp2_with (go_at_call 32; refine (i2 _).mono ?_; rintro e w' ⟨rfl, hw'⟩; rw [hw']; clear hw' w')
  have K1 : Hid (Keep (fun k => k = xw) w w1) := (Keep.ofBelow BA.out : Keep (fun k => k = xw) w _).trans G2.out (fun _ _ e => e)
  have hz1 : w.heap.size < w1.heap.size := by have := G2.out.size; rw [size_alloc] at this; omega
  clear c0 i1
  go_loopw [5] (fun i w' => ∃ (k : Nat) (T : List UInt8), k ≤ fs.length ∧ i = .int .i64 k ∧ Hid (lFlds x (lAsks l) (fs.drop k) (.ok T, false) = (.ok out, false)) ∧ Hid (RWr w' xw T 0) ∧ Hid (Keep (fun k => k = xw) w1 w')) (fun i _ => fs.length - (intOf i).toNat)
  case atStart => exact ⟨0, _, by omega, rfl, HQ, G1, hid (Keep.refl _ _)⟩
  case round =>
    obtain ⟨k, Tk, hk, rfl, hL, hR, hK⟩ := hrel
    obtain ⟨d0, d1, d2, d3, d4, d5, d6⟩ := rq_cells ((hK.out.block w.heap.size hz1 (by omega)).trans R1.out)
    have kw : Keep (fun k => k = xw) w wr := K1.out.trans hK.out (fun _ _ e => e)
    have bw : Below hi w wr := kw.below (by omega) (fun j hj e => by omega)
    by_cases hlt : k < fs.length
    · have b0 : (k : Int) < (P.size : Int) := by omega
      obtain ⟨xb, hxb, hx2, hi1, hi2⟩ := index_any P (k : Int) k rfl (by omega)
      have hxe : xb = (lett fs[k]).toNat := by
        rw [hxb.out, HPd.out, List.getD_eq_getElem?_getD, List.getElem?_map, List.getElem?_eq_getElem hlt]; rfl
      have hL2 := hL.out
      rw [List.drop_eq_getElem_cons hlt] at hL2
      have hL3 : lFlds x (lAsks l) (fs.drop (k + 1)) (lFq x (lAsks l) fs[k] (.ok Tk, false)) = (.ok out, false) := hL2
      obtain ⟨M, hM⟩ := (abs_flds x (lAsks l) (abs_lAsks l) (fs.drop (k + 1))).mid hL3
      rw [hM] at hL3
      have hTk := flds_len_le x l HNn.out _ hL.out
      have HN := hid hL3
      clear hL2 hL3 hxb
      generalize fs[k] = g at *
      have hKK : ∀ w', RWr w' xw M 0 → Keep (fun k => k = xw) wr w' → Hid (RWr w' xw M 0) ∧ Hid (Keep (fun k => k = xw) w1 w') := fun w' h1 h2 => ⟨h1, hK.out.trans h2 (fun _ _ e => e)⟩
      have HKK := hid hKK
      clear hKK
      subst hxe
      cases g with
      | entries =>
        obtain ⟨_, e2, rfl⟩ := lif_ok hM
        obtain ⟨n1, n2⟩ := texts_tot e2
        have i3 := xwTexts_any xw Tk 0 _ x.ent 32 4096 (by omega) (by omega) wr (HX.out.l2.slc HX.out.s2 bw) hR.out (by omega)
        have HE := hid e2
        clear hM e2 n1 n2
        go_wp2_with (go_at_call 70; refine i3.mono ?_; intro e w3 hp; obtain ⟨he, g1, g2⟩ := RPut.ok hp HE.out; subst he; obtain ⟨X1, X2⟩ := HKK.out w3 g1 g2; clear hp g1 g2)
        exact ⟨⟨k + 1, _, by omega, by go_num, HN, X1, X2⟩, by simp [intOf]; omega⟩
      | a =>
        obtain ⟨_, e2, rfl⟩ := lif_ok hM
        have i3 := xwNum_any xw Tk 0 x.a HF.out.k2.1 HF.out.k2.2 wr hR.out (by omega)
        have HE := hid e2
        clear hM e2
        go_wp2_with (go_at_call 71; refine i3.mono ?_; intro e w3 hp; obtain ⟨he, g1, g2⟩ := RPut.ok hp HE.out; subst he; obtain ⟨X1, X2⟩ := HKK.out w3 g1 g2; clear hp g1 g2)
        exact ⟨⟨k + 1, _, by omega, by go_num, HN, X1, X2⟩, by simp [intOf]; omega⟩
      | b =>
        obtain ⟨_, e2, rfl⟩ := lif_ok hM
        have i3 := xwNum_any xw Tk 0 x.b HF.out.k3.1 HF.out.k3.2 wr hR.out (by omega)
        have HE := hid e2
        clear hM e2
        go_wp2_with (go_at_call 71; refine i3.mono ?_; intro e w3 hp; obtain ⟨he, g1, g2⟩ := RPut.ok hp HE.out; subst he; obtain ⟨X1, X2⟩ := HKK.out w3 g1 g2; clear hp g1 g2)
        exact ⟨⟨k + 1, _, by omega, by go_num, HN, X1, X2⟩, by simp [intOf]; omega⟩
      | size =>
        obtain ⟨_, e2, rfl⟩ := lif_ok hM
        have i3 := xwNum_any xw Tk 0 x.size HF.out.k4.1 HF.out.k4.2 wr hR.out (by omega)
        have HE := hid e2
        clear hM e2
        go_wp2_with (go_at_call 71; refine i3.mono ?_; intro e w3 hp; obtain ⟨he, g1, g2⟩ := RPut.ok hp HE.out; subst he; obtain ⟨X1, X2⟩ := HKK.out w3 g1 g2; clear hp g1 g2)
        exact ⟨⟨k + 1, _, by omega, by go_num, HN, X1, X2⟩, by simp [intOf]; omega⟩
      | indices =>
        obtain ⟨e1, e2, rfl⟩ := lif_ok hM
        have hlen : x.list.length ≤ 256 := by rw [arSz, Bool.and_eq_true] at e1; have := (wi_iff.1 e1.1).2; omega
        have i3 := xwRising_any xw Tk 0 _ x.list HF.out.li (by omega) wr (HX.out.l1.slcI HX.out.s1 bw) hR.out (by omega)
        have HE := hid e2
        clear hM e1 e2 hlen
        go_wp2_with (go_at_call 72; refine i3.mono ?_; intro e w3 hp; obtain ⟨he, g1, g2⟩ := RPut.ok hp HE.out; subst he; obtain ⟨X1, X2⟩ := HKK.out w3 g1 g2; clear hp g1 g2)
        exact ⟨⟨k + 1, _, by omega, by go_num, HN, X1, X2⟩, by simp [intOf]; omega⟩
      | heads =>
        obtain ⟨e1, e2, rfl⟩ := lif_ok hM
        have hlen : x.list.length ≤ 64 := by rw [arSz, Bool.and_eq_true] at e1; have := (wi_iff.1 e1.1).2; omega
        have i3 := xwRising_any xw Tk 0 _ x.list HF.out.li (by omega) wr (HX.out.l1.slcI HX.out.s1 bw) hR.out (by omega)
        have HE := hid e2
        clear hM e1 e2 hlen
        go_wp2_with (go_at_call 72; refine i3.mono ?_; intro e w3 hp; obtain ⟨he, g1, g2⟩ := RPut.ok hp HE.out; subst he; obtain ⟨X1, X2⟩ := HKK.out w3 g1 g2; clear hp g1 g2)
        exact ⟨⟨k + 1, _, by omega, by go_num, HN, X1, X2⟩, by simp [intOf]; omega⟩
      | asks =>
        have hA : lAsks l (.ok Tk, false) = (.ok M, false) := hM
        rw [lAsks] at hA
        split at hA
        · rename_i hwl
          have hwl2 := wi_iff.1 hwl
          have hMo := flds_len_le x l HNn.out _ HN.out
          obtain ⟨M1, hM1⟩ := (abs_asks l).mid hA
          rw [hM1] at hA
          obtain ⟨_, e2, rfl⟩ := lif_ok hM1
          have i3 := xwNum_any xw Tk 0 (l.length : Int) (by omega) (by omega) wr hR.out (by omega)
          have HE := hid e2
          have HA := hid hA
          have HMo := hid hMo
          clear hM hM1 e2 hA hwl hMo
          go_wp2_with (first
            | (go_at_call 71; refine i3.mono ?_; intro e w3 hp; obtain ⟨he, g1, g2⟩ := RPut.ok hp HE.out; subst he; have G3 := hid g1; have K3 := hid g2; clear hp g1 g2))
          clear i3
          generalize wr = wo at *
          go_loopw [6] (fun i w' => ∃ (j : Nat) (U : List UInt8), j ≤ l.length ∧ i = .int .i64 j ∧ Hid ((l.drop j).foldl (fun s x => lAsk x s) (.ok U, false) = (.ok M, false)) ∧ Hid (RWr w' xw U 0) ∧ Hid (Keep (fun k => k = xw) wo w')) (fun i _ => l.length - (intOf i).toNat)
          case atStart => exact ⟨0, _, by omega, rfl, HA, G3, K3⟩
          case round =>
            obtain ⟨j, U, hj, rfl, hU, hRj, hKj⟩ := hrel
            have kj : Keep (fun k => k = xw) w1 wr := hK.out.trans hKj.out (fun _ _ e => e)
            obtain ⟨f0, f1, f2, f3, f4, f5, f6⟩ := rq_cells ((kj.block w.heap.size hz1 (by omega)).trans R1.out)
            have kw2 : Keep (fun k => k = xw) w wr := K1.out.trans kj (fun _ _ e => e)
            have bw2 : Below hi w wr := kw2.below (by omega) (fun j hj e => by omega)
            by_cases hjl : j < l.length
            · have b1 : (j : Int) < (l.length : Int) := by omega
              have hU2 := hU.out
              rw [List.drop_eq_getElem_cons hjl] at hU2
              have hU3 : (l.drop (j + 1)).foldl (fun s x => lAsk x s) (lAsk l[j] (.ok U, false)) = (.ok M, false) := hU2
              obtain ⟨V, hV⟩ := (abs_asks (l.drop (j + 1))).mid hU3
              rw [hV] at hU3
              have hVl := asks_len_le _ hU3
              obtain ⟨pa, ca, he, a4⟩ := HU.out.bl bw2
              injection he with he1 he2 he3
              obtain ⟨y, ey, hy, ul, ue, ua, e0, e1, e2, e3, e4, e5, e6, n1, n2, t1, t2, t3⟩ := a4 j l[j] (List.getElem?_eq_getElem hjl)
              rw [← he1] at ey
              clear he1 he2 he3 a4
              rw [← Go.Deep.add_add] at e1 e2 e3 e4 e5 e6
              replace e1 : wr.cell? ⟨(y.add (j * 7)).block, (y.add (j * 7)).off + 1, none⟩ = _ := e1
              replace e2 : wr.cell? ⟨(y.add (j * 7)).block, (y.add (j * 7)).off + 2, none⟩ = _ := e2
              replace e3 : wr.cell? ⟨(y.add (j * 7)).block, (y.add (j * 7)).off + 3, none⟩ = _ := e3
              replace e4 : wr.cell? ⟨(y.add (j * 7)).block, (y.add (j * 7)).off + 4, none⟩ = _ := e4
              replace e5 : wr.cell? ⟨(y.add (j * 7)).block, (y.add (j * 7)).off + 5, none⟩ = _ := e5
              replace e6 : wr.cell? ⟨(y.add (j * 7)).block, (y.add (j * 7)).off + 6, none⟩ = _ := e6
              have i4 := HEL.out j hjl wr U V ul ue ua hRj.out bw2 hV (by have := HMo.out; omega) ⟨n1, n2, t1, t2, t3⟩
              rw [akV] at i4
              obtain ⟨pp1, qq1, rfl, _⟩ := t1
              obtain ⟨pp2, qq2, rfl, _⟩ := t2
              obtain ⟨pp3, qq3, rfl⟩ := t3
              subst ey
              have HU3 := hid hU3
              clear hU2 hU3 hV hVl n1 n2
              generalize l[j] = z at *
              go_wp2_with (go_at_call 35; refine i4.mono ?_; rintro e w5 ⟨rfl, g1, g2⟩; have G5 := hid g1; have K5 := hid (hKj.out.trans g2 (fun _ _ e => e)); clear g1 g2)
              exact ⟨⟨j + 1, V, by omega, by go_num, HU3, G5, K5⟩, by simp [intOf]; omega⟩
            · have b1 : ¬ (j : Int) < (l.length : Int) := by omega
              obtain rfl : j = l.length := by omega
              have hU2 := hU.out
              rw [List.drop_length] at hU2
              have hUM : U = M := by
                have h := (Prod.mk.inj hU2).1
                injection h
              subst hUM
              obtain ⟨X1, X2⟩ := HKK.out wr hRj.out hKj.out
              clear hU2
              go_wp2
              exact ⟨⟨k + 1, U, by omega, by go_num, HN, X1, X2⟩, by simp [intOf]; omega⟩
        · cases (Prod.mk.inj hA).2
    · have b0 : ¬ (k : Int) < (P.size : Int) := by omega
      obtain rfl : k = fs.length := by omega
      have hL2 := hL.out
      rw [List.drop_length] at hL2
      have hTo : Tk = out := by
        have h := (Prod.mk.inj hL2).1
        injection h
      subst hTo
      clear hL2
      go_wp2
      go_end0
      exact ⟨rfl, hR.out, kw⟩
end Msg
end Go.Proofs.YtmhgdcfmfcjagaaGreatDoor

namespace Go.Proofs.YtmhgdcfmfcjagaaGreatDoor
open Go.RowKit Cod
namespace Msg

set_option maxRecDepth 100000 in
set_option maxHeartbeats 4000000 in
/-- a request that has no fields -/
theorem lay17_none {w : World} {xw : Nat} {x : Ask} {p1 p2 p3 : Option Addr} {q1 q2 q3 : Nat} {S : List UInt8} (hw : RWr w xw S 0) (hk : x.kind = 2) (ho : S.length ≤ 2000000) :
    Calls Tryz.prog 35 #[.pointer (some ⟨xw, 0, none⟩), .agg #[.int .i64 x.kind, .int .i64 x.a, .int .i64 x.b, .int .i64 x.size, .slice p1 x.list.length q1, .slice p2 x.ent.length q2, .slice p3 x.n q3]] w (DL w xw (S ++ [2])) := by
  have hxl := hw.lt
  rw [hk]
  have bA := (Below.refl w.heap.size w).alloc (Nat.le_refl _) (.cells #[.int .i64 2, .int .i64 x.a, .int .i64 x.b, .int .i64 x.size, .slice p1 x.list.length q1, .slice p2 x.ent.length q2, .slice p3 x.n q3] 26)
  have rA := heap_alloc_new w (.cells #[.int .i64 2, .int .i64 x.a, .int .i64 x.b, .int .i64 x.size, .slice p1 x.list.length q1, .slice p2 x.ent.length q2, .slice p3 x.n q3] 26)
  have i1 := xwByte_any xw S 0 2 _ (hw.below bA) (by omega)
  have i2 := fun w => fields17_any 2 w
  rw [show sv (fw 2) = .string ⟨#[45]⟩ from rfl] at i2
  have BA := hid bA
  have RA := hid rA
  clear hw bA rA hk
  go_enter Tryz.func35, Tryz.ntmps35
  go_wp2_with (go_at_call 69; fail)
  go_at_call 69
  refine i1.mono ?_
  intro e w1 hp
  obtain ⟨he, g1, g2⟩ := RPut.ok hp rfl
  subst he
  have G1 := hid g1
  have K1 : Hid (Keep (fun k => k = xw) w w1) := (Keep.ofBelow BA.out : Keep (fun k => k = xw) w _).trans g2 (fun _ _ e => e)
  have R1 := (g2.block w.heap.size (by rw [size_alloc]; omega) (by omega)).trans RA.out
  have c0 : w1.cell? ⟨w.heap.size, 0, none⟩ = some (.int .i64 2) := by rw [cell_of_row _ _ _ _ _ _ R1]; rfl
  clear hp g1 g2 R1
  go_wp2_with (go_at_call 32; refine (i2 _).mono ?_; rintro e w' ⟨rfl, hw'⟩; rw [hw']; clear hw' w')
  go_loopw [5] (fun i w' => ∃ k : Nat, k ≤ 1 ∧ i = .int .i64 k ∧ w' = w1) (fun i _ => 1 - (intOf i).toNat)
  case atStart => exact ⟨0, by omega, rfl, rfl⟩
  case round =>
    obtain ⟨k, hk, rfl, rfl⟩ := hrel
    by_cases h0 : k = 0
    · subst h0
      go_wp2
      exact ⟨⟨1, by omega, by go_num, (by first | rfl | trivial)⟩, by simp [intOf]⟩
    · obtain rfl : k = 1 := by omega
      go_wp2
      go_end0
      exact ⟨rfl, G1.out, K1.out⟩
theorem lFlds_no (x : Ask) (da db : LS → LS) : ∀ (fs : List Fq), (∀ g ∈ fs, g ≠ .asks) → ∀ s, lFlds x da fs s = lFlds x db fs s
  | [], _, s => rfl
  | g :: fs, h, s => by
    have e : lFq x da g s = lFq x db g s := by
      cases g with
      | asks => exact absurd rfl (h .asks (by simp))
      | a => rfl
      | b => rfl
      | size => rfl
      | indices => rfl
      | heads => rfl
      | entries => rfl
    show lFlds x da fs (lFq x da g s) = lFlds x db fs (lFq x db g s)
    rw [e]
    exact lFlds_no x da db fs (fun g hg => h g (by simp [hg])) _
theorem req_ok {x : Ask} {da : LS → LS} {lo up : Int} {S out : List UInt8} (h : lReq x da lo up (.ok S, false) = (.ok out, false)) :
    wi x.kind lo up = true ∧ whole x (setFs x (flds x.kind.toNat) (Ask.of x.kind)) = true ∧ lFlds x da (flds x.kind.toNat) (lMark x.kind lo up (.ok S, false)) = (.ok out, false) := by
  rw [lReq] at h
  split at h
  · rename_i hw
    have h2 := (Prod.mk.inj h).2
    rw [Bool.or_eq_false_iff, Bool.not_eq_false'] at h2
    exact ⟨hw, h2.2, Prod.ext (Prod.mk.inj h).1 h2.1⟩
  · cases (Prod.mk.inj h).2
theorem mark_eq {k lo up : Int} (hw : wi k lo up = true) (h0 : 0 ≤ k) (h1 : k ≤ 255) (S : List UInt8) : lMark k lo up (.ok S, false) = (.ok (S ++ [UInt8.ofNat k.toNat]), false) := by
  rw [lMark, lif, if_pos hw, byteErr, if_neg (by omega)]
  rfl
theorem layEl_any (w : World) (hi xw : Nat) (hhi : hi ≤ xw) (l : List Ask) (hf : ∀ y ∈ l, Fit y) : LayEl w hi xw l := fun k hk w' S out ul ue ua hw _ hq ho hx => by
  have hF := hf l[k] (List.getElem_mem hk)
  generalize l[k] = y at *
  have hq : lReq y id 3 7 (.ok S, false) = (.ok out, false) := hq
  obtain ⟨h1, h2, h3⟩ := req_ok hq
  have hk := wi_iff.1 h1
  have h0 := no_ls h1 (whole_self' y y.kind.toNat h2)
  obtain ⟨p1, q1, rfl, _⟩ := id hx.s1
  obtain ⟨p2, q2, rfl, _⟩ := id hx.s2
  obtain ⟨p3, q3, rfl⟩ := id hx.s3
  rw [mark_eq h1 (by omega) (by omega), lFlds_no y id (lAsks []) _ (no_asks h1)] at h3
  rw [akV]
  exact lay17_gen (l := []) hw hhi hx hF ⟨p3, q3, by rw [h0]; rfl, fun j x hx => by simp at hx⟩ h0 (by omega) (by omega) (by omega) h3 ho (fun k hk => by simp at hk)
theorem lay17_any {w : World} {hi xw : Nat} {x : Ask} {l : List Ask} {ul ue ua : Value} {S out : List UInt8} (hw : RWr w xw S 0) (hhi : hi ≤ xw) (hx : Ak w hi x ul ue ua) (hf : Fit x) (hu : Aq w hi ua l) (hn : x.n = l.length) (hlf : ∀ y ∈ l, Fit y) (hq : lRequest x l (.ok S, false) = (.ok out, false)) (ho : out.length ≤ 2000000) :
    Calls Tryz.prog 35 #[.pointer (some ⟨xw, 0, none⟩), akV x ul ue ua] w (DL w xw out) := by
  obtain ⟨h1, h2, h3⟩ := req_ok hq
  have hk := wi_iff.1 h1
  obtain ⟨p1, q1, rfl, _⟩ := id hx.s1
  obtain ⟨p2, q2, rfl, _⟩ := id hx.s2
  obtain ⟨p3, q3, rfl⟩ := id hx.s3
  rw [mark_eq h1 (by omega) (by omega)] at h3
  rw [akV]
  by_cases h2k : x.kind = 2
  · have e : out = S ++ [2] := by
      rw [h2k] at h3
      have h := (Prod.mk.inj h3).1
      injection h with h
      exact h.symm
    subst e
    exact lay17_none hw h2k (by rw [List.length_append] at ho; omega)
  · exact lay17_gen hw hhi hx hf hu hn hk.1 hk.2 h2k h3 ho (layEl_any w hi xw hhi l hlf)
end Msg
end Go.Proofs.YtmhgdcfmfcjagaaGreatDoor

namespace Go.Proofs.YtmhgdcfmfcjagaaGreatDoor
open Go.RowKit Cod
namespace Msg

theorem lif_iff {ok : Bool} {e : Int} {b S : List UInt8} : (∃ out, lif ok e b (.ok S, false) = (.ok out, false)) ↔ ok = true ∧ e = 0 := by
  constructor
  · rintro ⟨out, h⟩
    exact ⟨(lif_ok h).1, (lif_ok h).2.1⟩
  · rintro ⟨h1, h2⟩
    refine ⟨S ++ b, ?_⟩
    rw [lif, if_pos h1, h2]
    rfl
theorem sz_num {n : Int} (h : isSz n = true) : numErr n = 0 := by
  rw [isSz, wi_iff] at h
  rw [numErr, if_neg (by omega)]
theorem size_iff {n : Int} {S : List UInt8} : (∃ out, lSize n (.ok S, false) = (.ok out, false)) ↔ isSz n = true := by
  rw [lSize, lif_iff]
  exact ⟨fun h => h.1, fun h => ⟨h, sz_num h⟩⟩
/-- numbers that rise, each a size: the two ways to say it -/
theorem rsB_last : ∀ (l : List Int) (q : Int) (m : Int), -1 ≤ q → (rsB (some q) l = true ↔ risesB q l = true ∧ (l ≠ [] → isSz (l.getLast?.getD m) = true))
  | [], q, m, _ => by simp [rsB, risesB]
  | n :: l, q, m, hq => by
    have ih := rsB_last l n m
    constructor
    · intro h
      have h : (isSz n && decide (q < n) && rsB (some n) l) = true := h
      rw [Bool.and_eq_true, Bool.and_eq_true, decide_eq_true_eq] at h
      obtain ⟨⟨h1, h2⟩, h3⟩ := h
      have h1' := h1
      rw [isSz, wi_iff] at h1'
      obtain ⟨a1, a2⟩ := (ih (by omega)).1 h3
      refine ⟨?_, fun _ => ?_⟩
      · show (decide (0 ≤ n ∧ n ≤ 4611686018427387904 ∧ q < n) && risesB n l) = true
        rw [a1, Bool.and_true]
        exact decide_eq_true ⟨by omega, by omega, h2⟩
      · cases l with
        | nil => exact h1
        | cons b l => rw [List.getLast?_cons_cons]; exact a2 (by simp)
    · rintro ⟨h1, h2⟩
      have h1 : (decide (0 ≤ n ∧ n ≤ 4611686018427387904 ∧ q < n) && risesB n l) = true := h1
      rw [Bool.and_eq_true, decide_eq_true_eq] at h1
      obtain ⟨⟨b1, b2, b3⟩, b4⟩ := h1
      have hl : l ≠ [] → isSz (l.getLast?.getD m) = true := fun hne => by
        have := h2 (by simp)
        cases l with
        | nil => exact absurd rfl hne
        | cons b l => rwa [List.getLast?_cons_cons] at this
      have h3 := (ih (by omega)).2 ⟨b4, hl⟩
      have hn : isSz n = true := by
        cases l with
        | nil => exact h2 (by simp)
        | cons b l =>
          have h5 : (isSz b && decide (n < b) && rsB (some b) l) = true := h3
          rw [Bool.and_eq_true, Bool.and_eq_true, decide_eq_true_eq] at h5
          have := h5.1.1
          rw [isSz, wi_iff] at this ⊢
          have := h5.1.2
          omega
      show (isSz n && decide (q < n) && rsB (some n) l) = true
      rw [hn, h3, decide_eq_true b3]
      rfl
theorem rsB_none (n : Int) (l : List Int) : rsB none (n :: l) = rsB (some (-1)) (n :: l) := by
  show (isSz n && true && rsB (some n) l) = (isSz n && decide (-1 < n) && rsB (some n) l)
  cases h : isSz n with
  | false => rfl
  | true =>
    rw [isSz, wi_iff] at h
    rw [decide_eq_true (by omega : -1 < n)]
theorem ri_iff {l : List Int} {many : Int} : riB l many = true ↔ arSz l many = true ∧ risingErr l = 0 := by
  rw [riB, arSz, Bool.and_eq_true, Bool.and_eq_true, decide_eq_true_eq, wi_iff, risingErr]
  cases l with
  | nil => simp
  | cons n l =>
    rw [rsB_none, rsB_last (n :: l) (-1) 0 (by omega)]
    constructor
    · rintro ⟨h1, h2, h3⟩
      exact ⟨⟨h1, h3 (by simp)⟩, by rw [if_pos h2]⟩
    · rintro ⟨⟨h1, h2⟩, h3⟩
      refine ⟨h1, ?_, fun _ => h2⟩
      by_cases hr : risesB (-1) (n :: l) = true
      · exact hr
      · rw [if_neg hr] at h3; omega
theorem tx_iff {l : List (List UInt8)} : txB l 1 32 4096 = true ↔ decide ((1 : Int) ≤ (l.length : Int)) = true ∧ textsErr l 32 4096 = 0 := by
  rw [txB, Bool.and_eq_true, decide_eq_true_eq, decide_eq_true_eq, List.all_eq_true, textsErr, if_neg (by omega)]
  constructor
  · rintro ⟨⟨h1, h2⟩, h3⟩
    refine ⟨h1, ?_⟩
    rw [if_neg (by omega), if_pos (fun p hp => by simpa using h3 p hp)]
  · rintro ⟨h1, h2⟩
    by_cases hm : (32 : Int) < (l.length : Int)
    · rw [if_pos hm] at h2; omega
    · rw [if_neg hm] at h2
      by_cases ha : ∀ p ∈ l, (p.length : Int) ≤ 4096
      · exact ⟨⟨h1, by omega⟩, fun p hp => by simpa using ha p hp⟩
      · rw [if_neg ha] at h2; omega
/-- may a field be? -/
def okF (x : Ask) : Fq → Bool
  | .a => isSz x.a
  | .b => isSz x.b
  | .size => isSz x.size
  | .indices => riB x.list 256
  | .heads => riB x.list 64
  | .entries => txB x.ent 1 32 4096
  | .asks => true
theorem fq_iff (x : Ask) (da : LS → LS) (g : Fq) (hg : g ≠ .asks) {S : List UInt8} : (∃ out, lFq x da g (.ok S, false) = (.ok out, false)) ↔ okF x g = true := by
  cases g with
  | a => exact size_iff
  | b => exact size_iff
  | size => exact size_iff
  | indices => exact (lif_iff).trans ri_iff.symm
  | heads => exact (lif_iff).trans ri_iff.symm
  | entries => exact (lif_iff).trans tx_iff.symm
  | asks => exact absurd rfl hg
theorem fs_iff (x : Ask) (da : LS → LS) (hd : Abs da) : ∀ (fs : List Fq), (∀ g ∈ fs, g ≠ .asks) → ∀ (S : List UInt8), (∃ out, lFlds x da fs (.ok S, false) = (.ok out, false)) ↔ ∀ g ∈ fs, okF x g = true
  | [], _, S => ⟨fun _ g hg => by simp at hg, fun _ => ⟨S, rfl⟩⟩
  | g :: fs, h, S => by
    have ih := fs_iff x da hd fs (fun g hg => h g (by simp [hg]))
    constructor
    · rintro ⟨out, ho⟩ g' hg'
      have ho : lFlds x da fs (lFq x da g (.ok S, false)) = (.ok out, false) := ho
      obtain ⟨m, hm⟩ := (abs_flds x da hd fs).mid ho
      rw [hm] at ho
      rcases List.mem_cons.1 hg' with rfl | hg'
      · exact (fq_iff x da g' (h g' (by simp))).1 ⟨m, hm⟩
      · exact (ih m).1 ⟨out, ho⟩ g' hg'
    · intro ha
      obtain ⟨m, hm⟩ := (fq_iff x da g (h g (by simp)) (S := S)).2 (ha g (by simp))
      obtain ⟨out, ho⟩ := (ih m).2 (fun g' hg' => ha g' (by simp [hg']))
      refine ⟨out, ?_⟩
      show lFlds x da fs (lFq x da g (.ok S, false)) = _
      rw [hm]
      exact ho
theorem isSz0 : isSz 0 = true := rfl
theorem rtF_iff {x : Ask} (h1 : 1 ≤ x.kind) (h2 : x.kind ≤ 12) : rtF x = true ↔ whole x (setFs x (flds x.kind.toNat) (Ask.of x.kind)) = true ∧ ∀ g ∈ flds x.kind.toNat, okF x g = true := by
  obtain ⟨n, hn⟩ := Int.eq_ofNat_of_zero_le (show 0 ≤ x.kind by omega)
  rw [rtF, hn, Int.toNat_natCast]
  have a1 : 1 ≤ n := by omega
  have a2 : n ≤ 12 := by omega
  have z0 := isSz0
  clear h1 h2
  match n, a1, a2 with
  | 1, _, _ | 2, _, _ | 3, _, _ | 4, _, _ | 5, _, _ | 6, _, _ | 7, _, _ | 8, _, _ | 9, _, _ | 10, _, _ | 11, _, _ | 12, _, _ =>
    constructor
    · intro h
      simp [fw, spB, hasB, whole, setFs, setF, flds, Ask.of, okF] at h ⊢
      simp_all
    · intro h
      simp [fw, spB, hasB, whole, setFs, setF, flds, Ask.of, okF] at h ⊢
      simp_all
end Msg
end Go.Proofs.YtmhgdcfmfcjagaaGreatDoor

namespace Go.Proofs.YtmhgdcfmfcjagaaGreatDoor
open Go.RowKit Cod
namespace Msg

set_option maxRecDepth 100000 in
set_option maxHeartbeats 2000000 in
theorem f_asks {w : World} {base lo0 b c d : Nat} {v : Value} {s : LS} {x : Ask} {ul ue ua : Value} {t : Ask} {tl te ta : Value} {l : List Ask} (h : Qa w base b c d v s x ul ue ua t tl te ta) (hu : As w lo0 base ua l) (hn : x.n = l.length) (hl : wi (l.length : Int) 1 64 = true) (hg : ∀ x ∈ l, Gd x 3 7) (hm : Sm s 29000000000000) :
    Calls Tryz.prog 111 #[.pointer (some ⟨d, 0, none⟩)] w fun e w' => e = .returned (.tuple #[]) ∧ FPost w base b c d v (lFq x (lAsks l) .asks s) x ul ue ua (setF x .asks t) w' := by
  have i1 := layAsks_yes h.ly.drew (hu.keep (S := fun _ => False) (Keep.refl _ w).drew (fun _ _ _ e => e)) hl hg hm
  obtain ⟨p1, q1, rfl⟩ := hu.shape
  have c0 : w.cell? ⟨d, 0, none⟩ = some (lay c) := by rw [cell_of_row _ _ _ _ _ _ h.row]; rfl
  have c4 : w.cell? ⟨d, 7, none⟩ = some (.slice p1 l.length q1) := by rw [cell_of_row _ _ _ _ _ _ h.row]; rfl
  rw [lay] at c0
  have mm := m_laying_asks ⟨c, 0, none⟩
  have HQ := hid h
  have HN := hid hn
  clear h hm hu hn hg hl
  go_enter Tryz.func111, Tryz.ntmps111
  go_region_held3 (fun w' => w'.cell? ⟨d, 0, none⟩ = some (.iface 96 (.pointer (some ⟨c, 0, none⟩))) ∧ w'.cell? ⟨d, 7, none⟩ = some (.slice p1 l.length q1)) (first | exact ⟨c0, c4⟩ | exact S2 | exact S3) (first | (go_at_call 150; (with_reducible refine i1.mono ?_); rintro e w2 ⟨rfl, hl⟩; have hl := hl.drew; have hrow := HQ.out.row2 hl; have g0 : w2.frozen? ⟨d, 14, none⟩ = false := frozen_of_row _ _ _ _ _ hrow; have e0 : w2.cell? ⟨d, 14, none⟩ = some ta := (by rw [cell_of_row _ _ _ _ _ _ hrow]; rfl); have S2 : w2.cell? ⟨d, 0, none⟩ = some (lay c) ∧ w2.cell? ⟨d, 7, none⟩ = some (.slice p1 l.length q1) := ⟨by rw [cell_of_row _ _ _ _ _ _ hrow]; rfl, by rw [cell_of_row _ _ _ _ _ _ hrow]; rfl⟩; have hrow3 := row_set 14 (.slice p1 l.length q1) hrow rfl; have S3 : (w2.setCell ⟨d, 14, none⟩ (.slice p1 l.length q1)).cell? ⟨d, 0, none⟩ = some (lay c) ∧ (w2.setCell ⟨d, 14, none⟩ (.slice p1 l.length q1)).cell? ⟨d, 7, none⟩ = some (.slice p1 l.length q1) := ⟨by rw [cell_of_row _ _ _ _ _ _ hrow3]; rfl, by rw [cell_of_row _ _ _ _ _ _ hrow3]; rfl⟩; rw [lay] at S2 S3; have HL := hid hl; clear hl hrow hrow3))
  go_end0
  exact ⟨rfl, HQ.out.put HL.out 14 _ _ _ _ _ rfl HQ.out.t1 HQ.out.t2 ⟨p1, q1, by rw [show (setF x .asks t).n = x.n from rfl, HN.out]⟩⟩
/-- a whole request, laid down -/
theorem request_yes {w : World} {base lo0 b c : Nat} {v : Value} {s : LS} {x : Ask} {ul ue ua : Value} {l : List Ask} (h : Ly w base b c v s) (hx : Ak w base x ul ue ua) (hg : Gd x 1 12) (hm : Sm s 1000000000000) (hu : x.kind = 12 → As w lo0 base ua l ∧ x.n = l.length ∧ wi (l.length : Int) 1 64 = true ∧ ∀ x ∈ l, Gd x 3 7) :
    Calls Tryz.prog 30 #[.pointer (some ⟨c, 0, none⟩), akV x ul ue ua, .int .i64 1, .int .i64 12] w fun e w' => e = .returned (.tuple #[]) ∧ Lo w base b c v (lRequest x l s) w' := by
  have hk := wi_iff.1 hg.wi
  have h12 : .asks ∈ flds x.kind.toNat → x.kind = 12 := fun e => by
    obtain ⟨n, hn⟩ := Int.eq_ofNat_of_zero_le (show 0 ≤ x.kind by omega)
    rw [hn, Int.toNat_natCast] at e
    rw [hn] at hk ⊢
    have h1 : 1 ≤ n := by omega
    have h2 : n ≤ 12 := by omega
    match n, h1, h2 with
    | 1, _, _ => simp [flds] at e
    | 2, _, _ => simp [flds] at e
    | 3, _, _ => simp [flds] at e
    | 4, _, _ => simp [flds] at e
    | 5, _, _ => simp [flds] at e
    | 6, _, _ => simp [flds] at e
    | 7, _, _ => simp [flds] at e
    | 8, _, _ => simp [flds] at e
    | 9, _, _ => simp [flds] at e
    | 10, _, _ => simp [flds] at e
    | 11, _, _ => simp [flds] at e
    | 12, _, _ => rfl
  have hd : .asks ∈ flds x.kind.toNat → ∀ s m, Sm s m → Sm (lAsks l s) (m + 27487790694400) := fun e s m hs => by
    obtain ⟨_, _, h3, h4⟩ := hu (h12 e)
    have hle := (wi_iff.1 h3).2
    rw [lAsks, if_pos h3]
    have h9 : (digs (l.length : Int).toNat).length ≤ 9 := digs_len9 (by omega)
    have h5 : Sm (lNum (l.length : Int) s) (m + 9) := (hs.lif _ _ _).mono (by omega)
    have := sm_asks l h4 h5
    exact this.mono (by have : l.length ≤ 64 := (by omega); have := Nat.mul_le_mul_right 343597383680 this; omega)
  by_cases h0 : x.kind = 12
  · obtain ⟨u1, u2, u3, u4⟩ := hu h0
    have hfl : flds x.kind.toNat = [.asks] := by rw [h0]; rfl
    refine reqL_yes h hx hg.fit hm (by omega) (K0 := 27487790694400) (by omega) (M := 29000000000000) (by rw [hfl]; decide) 1 12 hg.wi (by omega) (by omega) (lAsks l) (fun d g hgm => ?_) hd hg.self
    rw [hfl, List.mem_singleton] at hgm
    subst hgm
    intro w' v' s' t tl te ta hb hQ hS
    exact f_asks hQ (u1.bl hb) u2 u3 u4 hS
  · refine reqL_yes h hx hg.fit hm (by omega) (K0 := 68719476736) (by omega) (M := 29000000000000) (by have := flds_len x.kind.toNat; have : ((flds x.kind.toNat).length - 1) * 68719476736 ≤ 2 * 68719476736 := Nat.mul_le_mul_right _ (by omega); omega) 1 12 hg.wi (by omega) (by omega) (lAsks l) (fun d g hgm => fc_six (by omega) hg.fit g (fun e => h0 (h12 (e ▸ hgm)))) (fun e => absurd (h12 e) h0) hg.self
end Msg
end Go.Proofs.YtmhgdcfmfcjagaaGreatDoor
