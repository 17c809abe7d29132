import Derived.Test.YtmhgdcfmfcjagaaGreatDoorPkMW6
namespace Go.Proofs.YtmhgdcfmfcjagaaGreatDoor
open Go.RowKit Cod
namespace Msg
theorem whole_yes {w : World} {base b c d : Nat} {v : Value} {s : LS} {x : Ask} {ul ue ua : Value} {tl te ta : Value} (h : Qa w base b c d v s x ul ue ua x tl te ta) :
    Calls Tryz.prog 61 #[.pointer (some ⟨d, 0, none⟩)] w fun e w' => e = .returned (.bool true) ∧ w' = w.drew := by
  obtain ⟨p1, q1, rfl, _⟩ := id h.s1
  obtain ⟨p2, q2, rfl, _⟩ := id h.s2
  obtain ⟨p3, q3, rfl⟩ := id h.s3
  obtain ⟨p4, q4, rfl⟩ := id h.t1
  obtain ⟨p5, q5, rfl⟩ := id h.t2
  obtain ⟨p6, q6, rfl⟩ := id h.t3
  exact whole_row h.row
theorem Qa.below {w w' : World} {base b c d : Nat} {v : Value} {s : LS} {x : Ask} {ul ue ua : Value} {t : Ask} {tl te ta : Value} (h : Qa w base b c d v s x ul ue ua t tl te ta) (hb : Below w.heap.size w w') : Qa w' base b c d v s x ul ue ua t tl te ta :=
  ⟨h.ly.below hb, (hb.block d h.lt).trans h.row, h.dn, h.ge, h.l1, h.l2, h.l1.slcI h.s1 (hb.mono h.ly.base), h.l2.slc h.s2 (hb.mono h.ly.base), h.s3, h.t1, h.t2, h.t3⟩
theorem Qa.in {w : World} {base b c d : Nat} {v : Value} {s : LS} {x : Ask} {ul ue ua : Value} {t : Ask} {tl te ta : Value} (h : Qa w base b c d v s x ul ue ua t tl te ta) : ∀ k, QSet b c d v k → base ≤ k ∧ k < w.heap.size := fun k hk => by
  rcases hk with rfl | hk
  · exact ⟨h.ge, h.lt⟩
  · exact h.ly.ge' k hk
theorem Qa.bl {w w' : World} {base b c d : Nat} {v : Value} {s : LS} {x : Ask} {ul ue ua : Value} {t : Ask} {tl te ta : Value} (h : Qa w base b c d v s x ul ue ua t tl te ta) (k : Keep (QSet b c d v) w w') : Below base w w' := k.below h.ly.base fun j hj e => by have := (h.in j e).1; omega
theorem QSet.from {w : World} {b c d : Nat} {v v1 : Value} (f : From w v v1) : ∀ k, QSet b c d v1 k → QSet b c d v k ∨ w.heap.size ≤ k := fun k hk => by
  rcases hk with rfl | rfl | rfl | hk
  · exact .inl (.inl rfl)
  · exact .inl (.inr (.inl rfl))
  · exact .inl (.inr (.inr (.inl rfl)))
  · rcases f k hk with g | g
    · exact .inl (.inr (.inr (.inr g)))
    · exact .inr g
theorem FPost.step {w w1 w2 : World} {base b c d : Nat} {v v1 : Value} {s : LS} {x : Ask} {ul ue ua : Value} {t : Ask} (k : Keep (QSet b c d v) w w1) (f : From w v v1) (h : FPost w1 base b c d v1 s x ul ue ua t w2) : FPost w base b c d v s x ul ue ua t w2 := by
  obtain ⟨v2, tl, te, ta, h1, h2, h3⟩ := h
  refine ⟨v2, tl, te, ta, h1, k.trans h2 fun j hj e => ?_, f.trans h3 k.size⟩
  rcases QSet.from f j e with g | g
  · exact g
  · omega
def FC (w0 : World) (M base b c d : Nat) (x : Ask) (ul ue ua : Value) (da : LS → LS) (g : Fq) : Prop :=
  ∀ (w : World) (v : Value) (s : LS) (t : Ask) (tl te ta : Value), Below base w0 w → Qa w base b c d v s x ul ue ua t tl te ta → Sm s M →
    Calls Tryz.prog (fnum g) #[.pointer (some ⟨d, 0, none⟩)] w fun e w' => e = .returned (.tuple #[]) ∧ FPost w base b c d v (lFq x da g s) x ul ue ua (setF x g t) w'
theorem FC.bl {w0 w1 : World} {M base b c d : Nat} {x : Ask} {ul ue ua : Value} {da : LS → LS} {g : Fq} (h : FC w0 M base b c d x ul ue ua da g) (hb : Below base w0 w1) : FC w1 M base b c d x ul ue ua da g := fun w v s t tl te ta h1 => h w v s t tl te ta (hb.trans h1)
theorem fc_six {w0 : World} {M base b c d : Nat} {x : Ask} {ul ue ua : Value} {da : LS → LS} (hM : M ≤ 140600000000000) (hf : Fit x) (g : Fq) (hg : g ≠ .asks) : FC w0 M base b c d x ul ue ua da g := fun w v s t tl te ta _ h hm => by
  have hm := hm.mono hM
  cases g with
  | a => exact f_a h hf hm da
  | b => exact f_b h hf hm da
  | size => exact f_size h hf hm da
  | indices => exact f_indices h hf hm da
  | heads => exact f_heads h hf hm da
  | asks => exact absurd rfl hg
  | entries => exact f_entries h hf hm da
theorem lFlds_snoc (x : Ask) (da : LS → LS) (fs : List Fq) (k : Nat) (hk : k < fs.length) (s : LS) : lFlds x da (fs.take (k + 1)) s = lFq x da fs[k] (lFlds x da (fs.take k) s) := by
  rw [lFlds, List.take_add_one, List.getElem?_eq_getElem hk, List.foldl_append]; rfl
theorem setFs_snoc (x : Ask) (fs : List Fq) (k : Nat) (hk : k < fs.length) (t : Ask) : setFs x (fs.take (k + 1)) t = setF x fs[k] (setFs x (fs.take k) t) := by
  rw [setFs, List.take_add_one, List.getElem?_eq_getElem hk, List.foldl_append]; rfl
structure Fl (w2 w' : World) (base b c d g : Nat) (v2 : Value) (k : Nat) (fs : List Fq) (s : LS) (x : Ask) (ul ue ua : Value) (t : Ask) (da : LS → LS) : Prop where
  q : ∃ v' tl te ta, Qa w' base b c d v' (lFlds x da (fs.take k) s) x ul ue ua (setFs x (fs.take k) t) tl te ta ∧ Keep (QSet b c d v2) w2 w' ∧ From w2 v2 v'
  row : w'.heap[g]? = some (.cells (fs.map fv).toArray 135 (0, 0))
  gn : ¬ QSet b c d v2 g
  gl : g < w2.heap.size
theorem Fl.next {w2 w' w3 : World} {base b c d g : Nat} {v2 v' : Value} {k : Nat} {fs : List Fq} {s : LS} {x : Ask} {ul ue ua : Value} {t : Ask} {da : LS → LS} (h : Fl w2 w' base b c d g v2 k fs s x ul ue ua t da) (hk : k < fs.length)
    (kp : Keep (QSet b c d v2) w2 w') (fr : From w2 v2 v') (p : FPost w' base b c d v' (lFq x da fs[k] (lFlds x da (fs.take k) s)) x ul ue ua (setF x fs[k] (setFs x (fs.take k) t)) w3) : Fl w2 w3 base b c d g v2 (k + 1) fs s x ul ue ua t da := by
  obtain ⟨v4, tl, te, ta, h1, h2, h3⟩ := p
  have hgl := h.gl
  refine ⟨⟨v4, tl, te, ta, ?_, kp.trans h2 fun j hj e => ?_, fr.trans h3 kp.size⟩, (h2.block g (Nat.lt_of_lt_of_le h.gl kp.size) fun e => ?_).trans h.row, h.gn, h.gl⟩
  · rw [lFlds_snoc x da fs k hk, setFs_snoc x fs k hk]; exact h1
  · rcases QSet.from fr j e with g | g
    · exact g
    · omega
  · rcases QSet.from fr g e with e | e
    · exact h.gn e
    · omega
theorem Fl.cell {w2 w' : World} {base b c d g : Nat} {v2 : Value} {k : Nat} {fs : List Fq} {s : LS} {x : Ask} {ul ue ua : Value} {t : Ask} {da : LS → LS} (h : Fl w2 w' base b c d g v2 k fs s x ul ue ua t da) (hk : k < fs.length) : w'.cell? ⟨g, k, none⟩ = some (fv fs[k]) := by
  rw [cell_of_row _ _ _ _ _ _ h.row]
  simp [List.getElem?_eq_getElem hk]
theorem Sm.lif_if {s : LS} {m n : Nat} (h : Sm s m) {ok : Bool} {e : Int} {l : List UInt8} (hn : ok = true → e = 0 → l.length ≤ n) : Sm (Msg.lif ok e l s) (m + n) := by
  cases ok with
  | false => rw [lif_no rfl]; exact (show Sm (_, true) _ from h).mono (by omega)
  | true =>
    by_cases he : e = 0
    · exact (h.lif true e l).mono (by have := hn rfl he; omega)
    · intro bs hb
      rw [lif_yes rfl] at hb
      obtain ⟨st, q⟩ := s
      have hb : st.put e l = .ok bs := hb
      cases st with
      | ok a => rw [WSt.put, if_neg he] at hb; cases hb
      | bad k => cases hb
theorem sm_fq {x : Ask} (hf : Fit x) {da : LS → LS} {fs : List Fq} {K : Nat} (hK : 68719476736 ≤ K) (hd : .asks ∈ fs → ∀ s m, Sm s m → Sm (da s) (m + K)) : ∀ (k : Nat) (s : LS) (m : Nat), Sm s m → k ≤ fs.length → Sm (lFlds x da (fs.take k) s) (m + k * K)
  | 0, s, m, h, _ => by simpa [lFlds] using h
  | k + 1, s, m, h, hk => by
    rw [lFlds_snoc x da fs k (by omega)]
    have ih := sm_fq hf hK hd k s m h (by omega)
    have hk1 : (k + 1) * K = k * K + K := by rw [Nat.add_mul, Nat.one_mul]
    have h9 : ∀ n : Int, isSz n = true → (digs n.toNat).length ≤ 9 := fun n hn => digs_len9 (by rw [isSz, wi_iff] at hn; omega)
    have hz : ∀ n : Int, Sm (lSize n (lFlds x da (fs.take k) s)) (m + (k + 1) * K) := fun n => by
      by_cases hs : isSz n = true
      · exact (ih.lif (isSz n) _ _).mono (by have := h9 n hs; omega)
      · rw [lSize, lif_no (by simpa using hs)]; exact (show Sm (_, true) _ from ih).mono (by omega)
    have hm : fs[k] ∈ fs := List.getElem_mem _
    generalize fs[k] = g at *
    cases g with
    | a => exact hz _
    | b => exact hz _
    | size => exact hz _
    | indices => exact (show Sm (lSizes x.list 256 _) _ from ih.lif_if (n := 68719476736) fun e _ => rising_fit (many := 256) hf.li e (by decide)).mono (by omega)
    | heads => exact (show Sm (lSizes x.list 64 _) _ from ih.lif_if (n := 68719476736) fun e _ => rising_fit (many := 64) hf.li e (by decide)).mono (by omega)
    | asks => exact (hd hm _ _ ih).mono (by omega)
    | entries => exact (show Sm (lTexts x.ent 1 32 4096 _) _ from ih.lif_if (n := 68719476736) fun _ e => texts_fit (many := 32) (most := 4096) e (by decide) (by decide)).mono (by omega)
theorem flds_len (k : Nat) : (flds k).length ≤ 3 := by
  match k with
  | 0 | 1 | 2 | 3 | 4 | 5 | 6 | 7 | 8 | 9 | 10 | 11 | 12 | n + 13 => first | decide | exact Nat.zero_le _
end Msg
end Go.Proofs.YtmhgdcfmfcjagaaGreatDoor

namespace Go.Proofs.YtmhgdcfmfcjagaaGreatDoor
open Go.RowKit Cod
namespace Msg
theorem Ask.of_put (c : Nat) (x : Ask) (ul ue ua : Value) (k : Int) : (aqArr (lay c) x ul ue ua Ask.zero (.slice none 0 0) (.slice none 0 0) (.slice none 0 0)).setIfInBounds 8 (.int .i64 k) = aqArr (lay c) x ul ue ua (Ask.of k) (.slice none 0 0) (.slice none 0 0) (.slice none 0 0) := rfl
set_option maxRecDepth 100000 in
set_option maxHeartbeats 4000000 in
theorem payL_yes {w : World} {base b c d : Nat} {v : Value} {s : LS} {x : Ask} {ul ue ua : Value} (h : Qa w base b c d v s x ul ue ua Ask.zero (.slice none 0 0) (.slice none 0 0) (.slice none 0 0)) (hf : Fit x) {m0 K0 M : Nat} (hm : Sm s m0) (h58 : m0 ≤ 58000000000000) (hK0 : 68719476736 ≤ K0) (hM : m0 + 1 + ((flds x.kind.toNat).length - 1) * K0 ≤ M) (lo hi : Int) (hw : wi x.kind lo hi = true) (h1 : 1 ≤ lo) (h2 : hi ≤ 12)
    (da : LS → LS) (hA : ∀ g ∈ flds x.kind.toNat, FC w M base b c d x ul ue ua da g) (hd : .asks ∈ flds x.kind.toNat → ∀ s m, Sm s m → Sm (da s) (m + K0)) :
    Calls Tryz.prog 59 #[.pointer (some ⟨d, 0, none⟩), .int .i64 lo, .int .i64 hi] w fun e w' => e = .returned (.tuple #[]) ∧ FPost w base b c d v (lFlds x da (flds x.kind.toNat) (lMark x.kind lo hi s)) x ul ue ua (setFs x (flds x.kind.toNat) (Ask.of x.kind)) w' := by
  have c0 : w.cell? ⟨d, 0, none⟩ = some (lay c) := by rw [cell_of_row _ _ _ _ _ _ h.row]; rfl
  have c4 : w.cell? ⟨d, 1, none⟩ = some (.int .i64 x.kind) := by rw [cell_of_row _ _ _ _ _ _ h.row]; rfl
  have i1 := layMark_any x.kind lo hi w.drew h.ly.drew (hm.mono (by omega))
  rw [hw, if_pos rfl] at i1
  have hk := wi_iff.1 hw
  obtain ⟨K, hK⟩ : ∃ K : Nat, x.kind = (K : Int) := ⟨x.kind.toNat, by omega⟩
  have hKn : x.kind.toNat = K := by omega
  have HS : Hid (Sm (lMark x.kind lo hi s) (m0 + 1)) := (hm.lif _ _ _).mono (by simp)
  rw [hKn] at hA hd hM ⊢
  have hl3 := flds_len K
  obtain ⟨fs, hfs⟩ : ∃ fs, Hid (flds K = fs) := ⟨_, rfl⟩
  rw [hfs.out] at hA hd hl3 hM ⊢
  have hK1 : 1 ≤ K := by omega
  have hK2 : K ≤ 12 := by omega
  rw [lay] at c0
  have mm := m_laying_mark ⟨c, 0, none⟩
  have HQ := hid h
  have HA := hid hA
  have HD := hid hd
  have HM := hid hM
  have HF := hid hf
  rw [hK] at i1 c4
  have HK := hid hK
  clear h hf hm hA hd hw hk h1 h2 hKn hK hM
  go_enter Tryz.func59, Tryz.ntmps59
  go_wp2
  go_region_held3 (fun w' => w'.cell? ⟨d, 0, none⟩ = some (.iface 96 (.pointer (some ⟨c, 0, none⟩))) ∧ w'.cell? ⟨d, 1, none⟩ = some (.int .i64 (K : Int))) (first | exact ⟨c0, c4⟩ | exact S2) (first | (go_at_call 152; (with_reducible refine i1.mono ?_); rintro e w2 ⟨rfl, hl⟩; have hl := hl.drew; have hrow := HQ.out.row2 hl; have g0 : w2.frozen? ⟨d, 8, none⟩ = false := frozen_of_row _ _ _ _ _ hrow; have e0 : w2.cell? ⟨d, 8, none⟩ = some (.int .i64 0) := (by rw [cell_of_row _ _ _ _ _ _ hrow]; rfl); have S2 : w2.cell? ⟨d, 0, none⟩ = some (lay c) ∧ w2.cell? ⟨d, 1, none⟩ = some (.int .i64 (K : Int)) := ⟨by rw [cell_of_row _ _ _ _ _ _ hrow]; rfl, by rw [cell_of_row _ _ _ _ _ _ hrow, aqArr, HK.out]; rfl⟩; rw [lay] at S2; have HL := hid hl; clear hl hrow))
  have hP := HQ.out.put HL.out 8 (.int .i64 (K : Int)) (Ask.of (K : Int)) _ _ _ (Ask.of_put c x ul ue ua (K : Int)) ⟨_, _, rfl⟩ ⟨_, _, rfl⟩ ⟨_, _, rfl⟩
  obtain ⟨v1, tl, te, ta, q1, q2, q3⟩ := hP
  have i2 := requestFields_any K hK1 hK2 (w2.setCell ⟨d, 8, none⟩ (.int .i64 (K : Int)))
  unfold FsPost at i2
  rw [hfs.out] at i2
  have Q1 := hid q1
  have Q2 := hid q2
  have Q3 := hid q3
  clear q1 q2 q3 S2
  generalize hw3 : w2.setCell ⟨d, 8, none⟩ (.int .i64 (K : Int)) = w3 at *
  go_wp2_with (go_at_call 92; fail)
  go_at_call 92
  refine i2.mono ?_
  rintro e w4 ⟨g, rfl, hg1, hg2, hg3⟩
  have hQ4 := Q1.out.below hg3
  have hgn : ¬ QSet b c d v1 g := fun e => by have := (Q1.out.in g e).2; omega
  have F0 : Hid (Fl w4 w4 base b c d g v1 0 fs (lMark (K : Int) lo hi s) x ul ue ua (Ask.of (K : Int)) da) := ⟨⟨v1, tl, te, ta, hQ4, Keep.refl _ _, From.refl _ _⟩, hg2, hgn, lt_of_heap hg2⟩
  have HS' : Hid (Sm (lMark (K : Int) lo hi s) (m0 + 1)) := HK.out ▸ HS
  have K4 : Hid (Keep (QSet b c d v) w w4) := Q2.out.trans (T := fun _ => False) (Keep.ofBelow hg3) (fun _ _ e => e.elim)
  have B4 : Hid (Below base w w4) := HQ.out.bl K4.out
  have Q4 := hid hQ4
  clear hg1 hg2 hg3 hQ4 hgn i1 i2 c0 c4 e0 g0 HS hl
  go_wp2
  go_loopw [37] (fun i w' => ∃ k : Nat, k ≤ fs.length ∧ i = .int .i64 k ∧ Hid (Fl w4 w' base b c d g v1 k fs (lMark (K : Int) lo hi s) x ul ue ua (Ask.of (K : Int)) da)) (fun i _ => fs.length - (intOf i).toNat)
  case atStart => exact ⟨0, by omega, rfl, F0⟩
  case round =>
    obtain ⟨k, hk, rfl, hF⟩ := hrel
    by_cases hlt : k < fs.length
    · have hlt' : (k : Int) < (fs.length : Int) := by omega
      have hc := hF.out.cell hlt
      obtain ⟨v', tl', te', ta', q1, q2, q3⟩ := hF.out.q
      have hS := sm_fq HF.out hK0 HD.out k _ _ HS'.out hk
      have iF := HA.out fs[k] (List.getElem_mem hlt) wr v' _ _ tl' te' ta' (B4.out.trans (Q4.out.bl q2)) q1 (hS.mono (by have := HM.out; have : k * K0 ≤ (fs.length - 1) * K0 := Nat.mul_le_mul_right _ (by omega); omega))
      have N := hid (fun p => Fl.next (w3 := p) hF.out hlt q2 q3)
      rw [fv] at hc
      clear q1 q2 q3 hS
      generalize fs[k] = gg at *
      cases gg with
      | a =>
        rw [show fnum .a = 107 from rfl] at hc iF
        go_wp2_with (go_at_call 107; refine iF.mono ?_; rintro e w5 ⟨rfl, p⟩; have N1 := hid (N.out _ p); clear p)
        exact ⟨⟨k + 1, by omega, by go_num, N1⟩, by simp [intOf]; omega⟩
      | b =>
        rw [show fnum .b = 110 from rfl] at hc iF
        go_wp2_with (go_at_call 110; refine iF.mono ?_; rintro e w5 ⟨rfl, p⟩; have N1 := hid (N.out _ p); clear p)
        exact ⟨⟨k + 1, by omega, by go_num, N1⟩, by simp [intOf]; omega⟩
      | size =>
        rw [show fnum .size = 106 from rfl] at hc iF
        go_wp2_with (go_at_call 106; refine iF.mono ?_; rintro e w5 ⟨rfl, p⟩; have N1 := hid (N.out _ p); clear p)
        exact ⟨⟨k + 1, by omega, by go_num, N1⟩, by simp [intOf]; omega⟩
      | indices =>
        rw [show fnum .indices = 108 from rfl] at hc iF
        go_wp2_with (go_at_call 108; refine iF.mono ?_; rintro e w5 ⟨rfl, p⟩; have N1 := hid (N.out _ p); clear p)
        exact ⟨⟨k + 1, by omega, by go_num, N1⟩, by simp [intOf]; omega⟩
      | heads =>
        rw [show fnum .heads = 109 from rfl] at hc iF
        go_wp2_with (go_at_call 109; refine iF.mono ?_; rintro e w5 ⟨rfl, p⟩; have N1 := hid (N.out _ p); clear p)
        exact ⟨⟨k + 1, by omega, by go_num, N1⟩, by simp [intOf]; omega⟩
      | asks =>
        rw [show fnum .asks = 111 from rfl] at hc iF
        go_wp2_with (go_at_call 111; refine iF.mono ?_; rintro e w5 ⟨rfl, p⟩; have N1 := hid (N.out _ p); clear p)
        exact ⟨⟨k + 1, by omega, by go_num, N1⟩, by simp [intOf]; omega⟩
      | entries =>
        rw [show fnum .entries = 105 from rfl] at hc iF
        go_wp2_with (go_at_call 105; refine iF.mono ?_; rintro e w5 ⟨rfl, p⟩; have N1 := hid (N.out _ p); clear p)
        exact ⟨⟨k + 1, by omega, by go_num, N1⟩, by simp [intOf]; omega⟩
    · obtain rfl : k = fs.length := by omega
      go_wp2
      go_end0
      refine ⟨rfl, ?_⟩
      obtain ⟨v', tl', te', ta', q1, q2, q3⟩ := hF.out.q
      rw [List.take_length] at q1
      rw [HK.out]
      exact FPost.step K4.out Q3.out ⟨v', tl', te', ta', q1, q2, q3⟩
end Msg
end Go.Proofs.YtmhgdcfmfcjagaaGreatDoor

namespace Go.Proofs.YtmhgdcfmfcjagaaGreatDoor
open Go.RowKit Cod
namespace Msg
def akV (x : Ask) (ul ue ua : Value) : Value := .agg #[.int .i64 x.kind, .int .i64 x.a, .int .i64 x.b, .int .i64 x.size, ul, ue, ua]
structure Ak (w : World) (base : Nat) (x : Ask) (ul ue ua : Value) : Prop where
  l1 : Lw base ul
  l2 : Lw base ue
  s1 : SlcI w ul x.list
  s2 : Slc w ue x.ent
  s3 : ∃ p q, ua = .slice p x.n q
set_option maxRecDepth 100000 in
set_option maxHeartbeats 4000000 in
theorem reqL_yes {w : World} {base b c : Nat} {v : Value} {s : LS} {x : Ask} {ul ue ua : Value} (h : Ly w base b c v s) (hx : Ak w base x ul ue ua) (hf : Fit x) {m0 K0 M : Nat} (hm : Sm s m0) (h58 : m0 ≤ 58000000000000) (hK0 : 68719476736 ≤ K0) (hM : m0 + 1 + ((flds x.kind.toNat).length - 1) * K0 ≤ M) (lo hi : Int) (hw : wi x.kind lo hi = true) (h1 : 1 ≤ lo) (h2 : hi ≤ 12)
    (da : LS → LS) (hA : ∀ d, ∀ g ∈ flds x.kind.toNat, FC w M base b c d x ul ue ua da g) (hd : .asks ∈ flds x.kind.toNat → ∀ s m, Sm s m → Sm (da s) (m + K0)) (hself : setFs x (flds x.kind.toNat) (Ask.of x.kind) = x) :
    Calls Tryz.prog 30 #[.pointer (some ⟨c, 0, none⟩), akV x ul ue ua, .int .i64 lo, .int .i64 hi] w fun e w' => e = .returned (.tuple #[]) ∧ Lo w base b c v (lReq x da lo hi s) w' := by
  obtain ⟨p1, q1, rfl, _⟩ := id hx.s1
  obtain ⟨p2, q2, rfl, _⟩ := id hx.s2
  obtain ⟨p3, q3, rfl⟩ := id hx.s3
  obtain ⟨o1, ho1⟩ : ∃ o1, Hid (Obj.cells #[.int .i64 x.kind, .int .i64 x.a, .int .i64 x.b, .int .i64 x.size, .slice p1 x.list.length q1, .slice p2 x.ent.length q2, .slice p3 x.n q3] 26 = o1) := ⟨_, rfl⟩
  obtain ⟨o2, ho2⟩ : ∃ o2, Hid (Obj.cells (aqArr (lay c) x (.slice p1 x.list.length q1) (.slice p2 x.ent.length q2) (.slice p3 x.n q3) Ask.zero (.slice none 0 0) (.slice none 0 0) (.slice none 0 0)) 100 = o2) := ⟨_, rfl⟩
  have z1 := size_alloc w o1
  have bW : Below w.heap.size w ((w.alloc o1).alloc o2) := ((Below.refl _ _).alloc (Nat.le_refl _) _).alloc (by omega) _
  have hbs := h.base
  have hQ : Qa ((w.alloc o1).alloc o2) base b c (w.heap.size + 1) v s x (.slice p1 x.list.length q1) (.slice p2 x.ent.length q2) (.slice p3 x.n q3) Ask.zero (.slice none 0 0) (.slice none 0 0) (.slice none 0 0) :=
    ⟨h.below bW, by rw [← ho2.out]; exact heap_alloc_at _ _ _ z1, fun e => by have := (h.ge' _ e).2; omega, by omega, hx.l1, hx.l2, hx.l1.slcI hx.s1 (bW.mono hbs), hx.l2.slc hx.s2 (bW.mono hbs), hx.s3, ⟨_, _, rfl⟩, ⟨_, _, rfl⟩, ⟨_, _, rfl⟩⟩
  have i1 := payL_yes hQ hf hm h58 hK0 hM lo hi hw h1 h2 da (fun g hg => (hA _ g hg).bl (bW.mono hbs)) hd
  have hS : lReq x da lo hi s = lFlds x da (flds x.kind.toNat) (lMark x.kind lo hi s) := by
    rw [lReq, if_pos hw, hself, whole_self, Bool.not_true, Bool.or_false]
  rw [← hS, hself] at i1
  generalize lReq x da lo hi s = s2 at *
  have HY := hid h
  rw [← ho1.out, ← ho2.out] at i1
  simp only [lay, aqArr, Ask.zero] at i1
  rw [akV]
  clear h hx hQ hm h58 hK0 hM hA hd hS hself bW hw h1 h2 z1 hbs hf
  go_enter Tryz.func30, Tryz.ntmps30
  go_wp2_with (first
    | (go_at_call 59; refine i1.mono ?_; rintro e w2 ⟨rfl, v', tl, te, ta, g1, g2, g3⟩; have i2 := whole_yes g1; have i3 := takes_any true w2.drew g1.ly.drew; have G1 := hid g1; have G2 := hid g2; have G3 := hid g3; clear g1 g2 g3)
    | (go_at_call 61; refine i2.mono ?_; rintro e w3 ⟨rfl, rfl⟩)
    | (go_at_call 60; refine i3.mono ?_; rintro e w4 ⟨rfl, g4, g5⟩; have G4 := hid g4.yes; have G5 := hid g5; clear g4 g5))
  go_end0
  refine ⟨rfl, v', G4.out, ?_, fun k hk => ?_⟩
  · have k1 : Keep (LSet b c v) w w2 := (Keep.ofBelow (((Below.refl _ _).alloc (Nat.le_refl _) _).alloc (by rw [size_alloc]; omega) _) : Keep (LSet b c v) w _).trans G2.out fun j hj e => by
      rcases e with e | e
      · omega
      · exact e
    exact (k1.drew).trans (T := fun k => k = c) (Keep.ofBut G5.out rfl) fun j _ e => .inl e
  · rcases G3.out k hk with g | g
    · exact .inl g
    · right
      rw [size_alloc, size_alloc] at g
      omega
end Msg
end Go.Proofs.YtmhgdcfmfcjagaaGreatDoor
