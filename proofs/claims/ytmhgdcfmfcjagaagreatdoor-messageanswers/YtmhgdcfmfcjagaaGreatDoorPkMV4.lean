import Derived.Test.YtmhgdcfmfcjagaaGreatDoorPkMB5
import Derived.Test.YtmhgdcfmfcjagaaGreatDoorPkMV2
import Derived.Test.YtmhgdcfmfcjagaaGreatDoorPkMW7
import Derived.Test.YtmhgdcfmfcjagaaGreatDoorPkN6
import Derived.Test.YtmhgdcfmfcjagaaGreatDoorPkG2
import Derived.Test.YtmhgdcfmfcjagaaGreatDoorPkMX2
namespace Go.Proofs.YtmhgdcfmfcjagaaGreatDoor
open Go.RowKit Cod
namespace Msg
def rpV (x : Part) (uh ue up : Value) : Value := .agg #[.int .i64 x.status, .int .i64 x.size, .int .i64 x.a, .int .i64 x.b, sv x.root, uh, ue, up]
set_option maxRecDepth 100000 in
set_option maxHeartbeats 1000000 in
theorem formOf_any (x : Part) (p1 p2 p3 : Option Addr) (n1 n2 n3 q1 q2 q3 : Nat) (w : World) :
    Calls Tryz.prog 170 #[.agg #[.int .i64 x.status, .int .i64 x.size, .int .i64 x.a, .int .i64 x.b, .string ⟨x.root.toArray⟩, .slice p1 n1 q1, .slice p2 n2 q2, .slice p3 n3 q3]] w fun e w' => e = .returned (.int .i64 (fm x)) ∧ Below w.heap.size w w' := by
  by_cases hr : x.root = []
  · rw [fm, if_pos hr, hr]
    go_enter Tryz.func170, Tryz.ntmps170
    go_wp2
    go_ret
    exact ⟨rfl, (Below.refl _ _).alloc (Nat.le_refl _) _⟩
  · rw [fm, if_neg hr]
    have hb : (⟨x.root.toArray⟩ : ByteArray).toList.isEmpty = false := by
      rw [isEmpty_data, sv_size]
      exact decide_eq_false (fun e => hr (List.length_eq_zero_iff.1 e))
    generalize (⟨x.root.toArray⟩ : ByteArray) = rb at *
    go_enter Tryz.func170, Tryz.ntmps170
    go_wp2
    go_ret
    exact ⟨rfl, (Below.refl _ _).alloc (Nat.le_refl _) _⟩
theorem Part.of_put (c : Nat) (x : Part) (uh ue up : Value) (k : Int) : (rpArr (lay c) x uh ue up Part.zero (.slice none 0 0) (.slice none 0 0) (.slice none 0 0)).setIfInBounds 9 (.int .i64 k) = rpArr (lay c) x uh ue up (Part.of k) (.slice none 0 0) (.slice none 0 0) (.slice none 0 0) := rfl
set_option maxRecDepth 100000 in
set_option maxHeartbeats 2000000 in
theorem isDoneL_yes {w : World} {base b c d : Nat} {v : Value} {s : LS} {x : Part} {uh ue up : Value} (h : Pa w base b c d v s x uh ue up Part.zero (.slice none 0 0) (.slice none 0 0) (.slice none 0 0)) (hm : Sm s 140600000000000) (least : Int) (hw : wi x.status least 8 = true) :
    Calls Tryz.prog 98 #[.pointer (some ⟨d, 0, none⟩), .int .i64 least] w fun e w' => e = .returned (.bool (decide (x.status = 0))) ∧ GPost w base b c d v (lMark x.status least 8 s) x uh ue up (Part.of x.status) w' := by
  have c0 : w.cell? ⟨d, 0, none⟩ = some (lay c) := by rw [cell_of_row _ _ _ _ _ _ h.row]; rfl
  have c4 : w.cell? ⟨d, 1, none⟩ = some (.int .i64 x.status) := by rw [cell_of_row _ _ _ _ _ _ h.row]; rfl
  have i1 := layMark_any x.status least 8 w.drew h.ly.drew (hm.mono (by omega))
  rw [hw, if_pos rfl] at i1
  rw [lay] at c0
  have mm := m_laying_mark ⟨c, 0, none⟩
  have HQ := hid h
  obtain ⟨st, hst⟩ : ∃ st, Hid (x.status = st) := ⟨_, rfl⟩
  rw [hst.out] at i1 c4 ⊢
  have F : Hid (∀ w2, Lo w base b c v (lMark st least 8 s) w2 → GPost w base b c d v (lMark st least 8 s) x uh ue up (Part.of st) (w2.setCell ⟨d, 9, none⟩ (.int .i64 st)) ∧ w2.cell? ⟨d, 0, none⟩ = some (lay c) ∧ w2.cell? ⟨d, 1, none⟩ = some (.int .i64 st) ∧ w2.cell? ⟨d, 9, none⟩ = some (.int .i64 0) ∧ w2.frozen? ⟨d, 9, none⟩ = false) := fun w2 hl => by
    have hrow := HQ.out.row2 hl
    refine ⟨HQ.out.put hl 9 _ _ _ _ _ (Part.of_put c x uh ue up st) ⟨_, _, rfl⟩ ⟨_, _, rfl⟩ ⟨_, _, rfl⟩, by rw [cell_of_row _ _ _ _ _ _ hrow]; rfl, by rw [cell_of_row _ _ _ _ _ _ hrow, ← hst.out]; rfl, by rw [cell_of_row _ _ _ _ _ _ hrow]; rfl, frozen_of_row _ _ _ _ _ hrow⟩
  clear h hm hw
  by_cases h0 : st = 0
  · subst h0
    rw [decide_eq_true rfl]
    go_enter Tryz.func98, Tryz.ntmps98
    go_wp2
    go_region_held3 (fun w' => w'.cell? ⟨d, 0, none⟩ = some (.iface 96 (.pointer (some ⟨c, 0, none⟩))) ∧ w'.cell? ⟨d, 1, none⟩ = some (.int .i64 0)) (first | exact ⟨c0, c4⟩ | exact S2) (first | (go_at_call 152; (with_reducible refine i1.mono ?_); rintro e w2 ⟨rfl, hl⟩; obtain ⟨f1, f2, f3, f4, f5⟩ := F.out w2 hl.drew; rw [lay] at f2; have S2 := And.intro f2 f3; have HG := hid f1; clear hl f1 f2 f3))
    go_wp2
    go_ret
    exact ⟨rfl, HG.out⟩
  · rw [decide_eq_false h0]
    have hb : (st == 0) = false := by simp [h0]
    go_enter Tryz.func98, Tryz.ntmps98
    go_wp2
    go_region_held3 (fun w' => w'.cell? ⟨d, 0, none⟩ = some (.iface 96 (.pointer (some ⟨c, 0, none⟩))) ∧ w'.cell? ⟨d, 1, none⟩ = some (.int .i64 st)) (first | exact ⟨c0, c4⟩ | exact S2) (first | (go_at_call 152; (with_reducible refine i1.mono ?_); rintro e w2 ⟨rfl, hl⟩; obtain ⟨f1, f2, f3, f4, f5⟩ := F.out w2 hl.drew; rw [lay] at f2; have S2 := And.intro f2 f3; have HG := hid f1; clear hl f1 f2 f3))
    go_wp2
    go_ret
    exact ⟨rfl, HG.out⟩
def GC (w0 : World) (M base b c d : Nat) (x : Part) (uh ue up : Value) (da : LS → LS) (g : Fr) : Prop :=
  ∀ (w : World) (v : Value) (s : LS) (t : Part) (th te tp : Value), Below base w0 w → Pa w base b c d v s x uh ue up t th te tp → Sm s M →
    Calls Tryz.prog (rnum g) #[.pointer (some ⟨d, 0, none⟩)] w fun e w' => e = .returned (.tuple #[]) ∧ GPost w base b c d v (lFr x da g s) x uh ue up (setR x g t) w'
theorem gc_six {w0 : World} {M base b c d : Nat} {x : Part} {uh ue up : Value} {da : LS → LS} (hM : M ≤ 140600000000000) (hf : PFit x) (g : Fr) (hg : g ≠ .parts) : GC w0 M base b c d x uh ue up da g := fun w v s t th te tp _ h hm => by
  have hm := hm.mono hM
  cases g with
  | size => exact g_size h hf hm da
  | a => exact g_a h hf hm da
  | over => exact g_over h hf hm da
  | root => exact g_root h hf hm da
  | hashes => exact g_hashes h hf hm da
  | parts => exact absurd rfl hg
  | entries => exact g_entries h hf hm da
theorem Pa.below {w w' : World} {base b c d : Nat} {v : Value} {s : LS} {x : Part} {uh ue up : Value} {t : Part} {th te tp : Value} (h : Pa w base b c d v s x uh ue up t th te tp) (hb : Below w.heap.size w w') : Pa w' base b c d v s x uh ue up t th te tp :=
  ⟨h.ly.below hb, (hb.block d h.lt).trans h.row, h.dn, h.ge, h.l1, h.l2, h.l1.slc h.s1 (hb.mono h.ly.base), h.l2.slc h.s2 (hb.mono h.ly.base), h.s3, h.t1, h.t2, h.t3⟩
theorem Pa.in {w : World} {base b c d : Nat} {v : Value} {s : LS} {x : Part} {uh ue up : Value} {t : Part} {th te tp : Value} (h : Pa w base b c d v s x uh ue up t th te tp) : ∀ k, QSet b c d v k → base ≤ k ∧ k < w.heap.size := fun k hk => by
  rcases hk with rfl | hk
  · exact ⟨h.ge, h.lt⟩
  · exact h.ly.ge' k hk
theorem Pa.bl {w w' : World} {base b c d : Nat} {v : Value} {s : LS} {x : Part} {uh ue up : Value} {t : Part} {th te tp : Value} (h : Pa w base b c d v s x uh ue up t th te tp) (k : Keep (QSet b c d v) w w') : Below base w w' := k.below h.ly.base fun j hj e => by have := (h.in j e).1; omega
theorem GPost.step {w w1 w2 : World} {base b c d : Nat} {v v1 : Value} {s : LS} {x : Part} {uh ue up : Value} {t : Part} (k : Keep (QSet b c d v) w w1) (f : From w v v1) (h : GPost w1 base b c d v1 s x uh ue up t w2) : GPost w base b c d v s x uh ue up t w2 := by
  obtain ⟨v2, th, te, tp, h1, h2, h3⟩ := h
  refine ⟨v2, th, te, tp, h1, k.trans h2 fun j hj e => ?_, f.trans h3 k.size⟩
  rcases QSet.from f j e with g | g
  · exact g
  · omega
theorem lFrs_snoc (x : Part) (da : LS → LS) (fs : List Fr) (k : Nat) (hk : k < fs.length) (s : LS) : lFrs x da (fs.take (k + 1)) s = lFr x da fs[k] (lFrs x da (fs.take k) s) := by
  rw [lFrs, List.take_add_one, List.getElem?_eq_getElem hk, List.foldl_append]; rfl
theorem setRs_snoc (x : Part) (fs : List Fr) (k : Nat) (hk : k < fs.length) (t : Part) : setRs x (fs.take (k + 1)) t = setR x fs[k] (setRs x (fs.take k) t) := by
  rw [setRs, List.take_add_one, List.getElem?_eq_getElem hk, List.foldl_append]; rfl
structure Gf (w2 w' : World) (base b c d : Nat) (u v2 : Value) (k : Nat) (fs : List Fr) (s : LS) (x : Part) (uh ue up : Value) (t : Part) (da : LS → LS) : Prop where
  q : ∃ v' th te tp, Pa w' base b c d v' (lFrs x da (fs.take k) s) x uh ue up (setRs x (fs.take k) t) th te tp ∧ Keep (QSet b c d v2) w2 w' ∧ From w2 v2 v'
  own : Own w' 0 u (fs.map rv)
  gn : ∀ g, u.ownBlock = some g → ¬ QSet b c d v2 g ∧ g < w2.heap.size
theorem Gf.next {w2 w' w3 : World} {base b c d : Nat} {u v2 v' : Value} {k : Nat} {fs : List Fr} {s : LS} {x : Part} {uh ue up : Value} {t : Part} {da : LS → LS} (h : Gf w2 w' base b c d u v2 k fs s x uh ue up t da) (hk : k < fs.length)
    (kp : Keep (QSet b c d v2) w2 w') (fr : From w2 v2 v') (p : GPost w' base b c d v' (lFr x da fs[k] (lFrs x da (fs.take k) s)) x uh ue up (setR x fs[k] (setRs x (fs.take k) t)) w3) : Gf w2 w3 base b c d u v2 (k + 1) fs s x uh ue up t da := by
  obtain ⟨v4, th, te, tp, h1, h2, h3⟩ := p
  refine ⟨⟨v4, th, te, tp, ?_, kp.trans h2 fun j hj e => ?_, fr.trans h3 kp.size⟩, h.own.keep h2 fun g hg e => ?_, h.gn⟩
  · rw [lFrs_snoc x da fs k hk, setRs_snoc x fs k hk]; exact h1
  · rcases QSet.from fr j e with g | g
    · exact g
    · omega
  · obtain ⟨n1, n2⟩ := h.gn g hg
    rcases QSet.from fr g e with e | e
    · exact n1 e
    · omega
theorem own_cell {w : World} {base : Nat} {u : Value} {cs : List Value} (h : Own w base u cs) {k : Nat} {y : Value} (hk : cs[k]? = some y) : ∃ g q, u = .slice (some ⟨g, 0, none⟩) cs.length q ∧ w.cell? ⟨g, k, none⟩ = some y := by
  rcases h with ⟨_, rfl⟩ | ⟨g, cap, rfl, h1, h2, h3, h4, h5, h6⟩
  · simp at hk
  · refine ⟨g, cap, rfl, ?_⟩
    have := h4 k y hk
    rwa [Nat.zero_add] at this
theorem sm_fr {x : Part} (hf : PFit x) {da : LS → LS} {fs : List Fr} {K : Nat} (hK : 68719476736 ≤ K) (hd : .parts ∈ fs → ∀ s m, Sm s m → Sm (da s) (m + K)) : ∀ (k : Nat) (s : LS) (m : Nat), Sm s m → k ≤ fs.length → Sm (lFrs x da (fs.take k) s) (m + k * K)
  | 0, s, m, h, _ => by simpa [lFrs] using h
  | k + 1, s, m, h, hk => by
    rw [lFrs_snoc x da fs k (by omega)]
    have ih := sm_fr hf hK hd k s m h (by omega)
    have hk1 : (k + 1) * K = k * K + K := by rw [Nat.add_mul, Nat.one_mul]
    have h9 : ∀ n : Int, isSz n = true → (digs n.toNat).length ≤ 9 := fun n hn => digs_len9 (by rw [isSz, wi_iff] at hn; omega)
    have hz : ∀ n : Int, Sm (lSize n (lFrs x da (fs.take k) s)) (m + (k + 1) * K) := fun n => by
      by_cases hs : isSz n = true
      · exact (ih.lif (isSz n) _ _).mono (by have := h9 n hs; omega)
      · rw [lSize, lif_no (by simpa using hs)]; exact (show Sm (_, true) _ from ih).mono (by omega)
    have hm : fs[k] ∈ fs := List.getElem_mem _
    generalize fs[k] = g at *
    cases g with
    | size => exact hz _
    | a => exact hz _
    | over => exact (ih.lif _ _ _).mono (by simp; omega)
    | root =>
      by_cases h32 : x.root.length = 32
      · exact (ih.lif _ _ _).mono (by omega)
      · show Sm (lif (decide (x.root.length = 32)) 0 x.root _) _
        rw [lif_no (decide_eq_false h32)]; exact (show Sm (_, true) _ from ih).mono (by omega)
    | hashes => exact (show Sm (lHashes x.hs _) _ from ih.lif_if (n := 68719476736) fun _ e => hashes_fit e).mono (by omega)
    | parts => exact (hd hm _ _ ih).mono (by omega)
    | entries => exact (show Sm (lTexts x.ent 0 4096 1000 _) _ from ih.lif_if (n := 68719476736) fun _ e => texts_fit (many := 4096) (most := 1000) e (by decide) (by decide)).mono (by omega)
theorem rflds_len (k : Nat) : (rflds k).length ≤ 4 := by
  match k with
  | 0 | 1 | 2 | 3 | 4 | 5 | 6 | 7 | 8 | 9 | 10 | 11 | 12 | n + 13 => first | decide | exact Nat.zero_le _
end Msg
end Go.Proofs.YtmhgdcfmfcjagaaGreatDoor

namespace Go.Proofs.YtmhgdcfmfcjagaaGreatDoor
open Go.RowKit Cod
namespace Msg
def hasB (l : List UInt8) (c : Nat) : Bool := l.any fun x => x.toNat == c
theorem hasB_take {l : List UInt8} {k c : Nat} (hk : k < l.length) (h : hasB (l.take k) c = false) (hne : ¬ l[k].toNat = c) : hasB (l.take (k + 1)) c = false := by
  rw [hasB, List.take_add_one, List.getElem?_eq_getElem hk, List.any_append]
  have h : (l.take k).any (fun x => x.toNat == c) = false := h
  rw [h]
  simp [hne]
theorem hasB_at {l : List UInt8} {k c : Nat} (hk : k < l.length) (he : l[k].toNat = c) : hasB l c = true := by
  rw [hasB, List.any_eq_true]
  exact ⟨l[k], List.getElem_mem hk, by simp [he]⟩
set_option maxRecDepth 100000 in
set_option maxHeartbeats 1000000 in
theorem has17_any (s : ByteArray) (c : Nat) (hs : s.size ≤ 9223372036854775807) (w : World) : Calls Tryz.prog 68 #[.string s, .int .u8 (c : Int)] w fun e w' => e = .returned (.bool (hasB s.data.toList c)) ∧ w' = w := by
  obtain ⟨R, hR⟩ : ∃ R, Hid (hasB s.data.toList c = R) := ⟨_, rfl⟩
  rw [hR.out]
  go_enter Tryz.func68, Tryz.ntmps68
  go_wp2
  go_loopw [5] (fun i w' => ∃ k : Nat, k ≤ s.size ∧ i = .int .i64 k ∧ Hid (hasB (s.data.toList.take k) c = false) ∧ w' = w) (fun i _ => s.size - (intOf i).toNat)
  case atStart => exact ⟨0, by omega, rfl, hid rfl, rfl⟩
  case round =>
    obtain ⟨k, hk, rfl, hH, rfl⟩ := hrel
    by_cases hlt : k < s.size
    · have b0 : (k : Int) < (s.size : Int) := by omega
      obtain ⟨x, hx, hx2, hi, hi2⟩ := index_any s (k : Int) k rfl hlt
      have hkl : k < s.data.toList.length := by rw [data_length]; exact hlt
      have hxe : s.data.toList[k].toNat = x := by
        rw [hx.out, List.getD_eq_getElem?_getD, List.getElem?_eq_getElem hkl]; rfl
      by_cases hc : x = c
      · subst hc
        have HE := hid (hasB_at hkl hxe)
        have y1 : ((x : Int) == (x : Int)) = true := by simp
        clear hxe hkl
        go_wp2
        go_ret
        exact ⟨by rw [← hR.out, HE.out]; rfl, rfl⟩
      · have y1 : ((x : Int) == (c : Int)) = false := by simp; omega
        have HN : Hid (hasB (s.data.toList.take (k + 1)) c = false) := hasB_take hkl hH.out (by rw [hxe]; exact hc)
        clear hxe hkl
        go_wp2
        exact ⟨⟨k + 1, by omega, by go_num, HN, (by first | rfl | trivial)⟩, by simp [intOf]; omega⟩
    · have b0 : ¬ (k : Int) < (s.size : Int) := by omega
      obtain rfl : k = s.size := by omega
      have e : hasB s.data.toList c = false := by
        have := hH.out
        rwa [List.take_of_length_le (by rw [data_length]; exact Nat.le_refl _)] at this
      have HE := hid e
      clear e
      go_wp2
      go_ret
      exact ⟨by rw [← hR.out, HE.out]; rfl, rfl⟩
set_option maxRecDepth 100000 in
theorem size17_any (n : Int) (w : World) : Calls Tryz.prog 65 #[.int .i64 n] w fun e w' => e = .returned (.bool (isSz n)) ∧ w' = w := by
  by_cases h1 : 0 ≤ n
  · by_cases h2 : n ≤ 1099511627776
    · rw [show isSz n = true from decide_eq_true ⟨h1, h2⟩]
      go_enter Tryz.func65, Tryz.ntmps65
      go_wp2
      go_ret
      exact ⟨rfl, rfl⟩
    · rw [show isSz n = false from decide_eq_false (fun h => h2 h.2)]
      go_enter Tryz.func65, Tryz.ntmps65
      go_wp2
      go_ret
      exact ⟨rfl, rfl⟩
  · rw [show isSz n = false from decide_eq_false (fun h => h1 h.1)]
    go_enter Tryz.func65, Tryz.ntmps65
    go_wp2
    go_ret
    exact ⟨rfl, rfl⟩
def txB (l : List (List UInt8)) (least many most : Int) : Bool := decide (least ≤ (l.length : Int) ∧ (l.length : Int) ≤ many) && l.all fun p => decide ((p.length : Int) ≤ most)
set_option maxRecDepth 100000 in
set_option maxHeartbeats 1000000 in
theorem texts17_any (u : Value) (l : List (List UInt8)) (least many most : Int) (hl : l.length ≤ maxLen) (w : World) (hs : Slc w u l) :
    Calls Tryz.prog 66 #[u, .int .i64 least, .int .i64 many, .int .i64 most] w fun e w' => e = .returned (.bool (txB l least many most)) ∧ w' = w := by
  obtain ⟨a, ca, rfl, ha⟩ := hs
  unfold maxLen at hl
  have Ha := hid ha
  clear ha
  by_cases h1 : (l.length : Int) < least
  · rw [show txB l least many most = false from by rw [txB, decide_eq_false (by omega), Bool.false_and]]
    go_enter Tryz.func66, Tryz.ntmps66
    go_wp2
    go_ret
    exact ⟨rfl, rfl⟩
  · by_cases h2 : many < (l.length : Int)
    · rw [show txB l least many most = false from by rw [txB, decide_eq_false (by omega), Bool.false_and]]
      go_enter Tryz.func66, Tryz.ntmps66
      go_wp2
      go_ret
      exact ⟨rfl, rfl⟩
    · rw [show txB l least many most = l.all (fun p => decide ((p.length : Int) ≤ most)) from by rw [txB, decide_eq_true (by omega), Bool.true_and]]
      obtain ⟨R, hR⟩ : ∃ R, Hid (l.all (fun p => decide ((p.length : Int) ≤ most)) = R) := ⟨_, rfl⟩
      rw [hR.out]
      go_enter Tryz.func66, Tryz.ntmps66
      go_wp2
      go_loopw [9] (fun i w' => ∃ k : Nat, k ≤ l.length ∧ i = .int .i64 k ∧ Hid (∀ p ∈ l.take k, (p.length : Int) ≤ most) ∧ w' = w) (fun i _ => l.length - (intOf i).toNat)
      case atStart => exact ⟨0, by omega, rfl, hid (fun p hp => by simp at hp), rfl⟩
      case round =>
        obtain ⟨k, hk, rfl, hH, rfl⟩ := hrel
        by_cases hlt : k < l.length
        · have b0 : (k : Int) < (l.length : Int) := by omega
          obtain ⟨x, rfl, xb, hx⟩ := Ha.out k l[k] (List.getElem?_eq_getElem hlt)
          obtain ⟨P, hP⟩ : ∃ P : ByteArray, Hid (sv l[k] = .string P ∧ P.size = l[k].length) := ⟨⟨l[k].toArray⟩, rfl, sv_size _⟩
          rw [hP.out.1] at hx
          have hPs := hP.out.2
          by_cases hm : most < (P.size : Int)
          · have e : l.all (fun p => decide ((p.length : Int) ≤ most)) = false := by
              rw [List.all_eq_false]
              exact ⟨l[k], List.getElem_mem hlt, by simp; omega⟩
            have HE := hid e
            clear hPs e
            go_wp2
            go_ret
            exact ⟨by rw [← hR.out, HE.out]; rfl, rfl⟩
          · have HN : Hid (∀ p ∈ l.take (k + 1), (p.length : Int) ≤ most) := fun p hp => by
              rw [List.take_add_one, List.getElem?_eq_getElem hlt] at hp
              rcases List.mem_append.1 hp with hp | hp
              · exact hH.out p hp
              · simp at hp
                subst hp
                omega
            clear hPs
            go_wp2
            exact ⟨⟨k + 1, by omega, by go_num, HN, (by first | rfl | trivial)⟩, by simp [intOf]; omega⟩
        · have b0 : ¬ (k : Int) < (l.length : Int) := by omega
          obtain rfl : k = l.length := by omega
          have e : l.all (fun p => decide ((p.length : Int) ≤ most)) = true := by
            rw [List.all_eq_true]
            intro p hp
            exact decide_eq_true (hH.out p (by rwa [List.take_length]))
          have HE := hid e
          clear e
          go_wp2
          go_ret
          exact ⟨by rw [← hR.out, HE.out]; rfl, rfl⟩
end Msg
end Go.Proofs.YtmhgdcfmfcjagaaGreatDoor

namespace Go.Proofs.YtmhgdcfmfcjagaaGreatDoor
open Go.RowKit Cod
namespace Msg
def tw (k : Int) : List UInt8 :=
  if k = 0 then [33] else if k = 1 then [115, 97, 114] else if k = 2 then [115, 114] else if k = 3 then [114] else if k = 4 ∨ k = 5 ∨ k = 6 ∨ k = 7 then [104]
  else if k = 8 then [101, 104] else if k = 9 then [97] else if k = 10 then [97, 98, 101, 104] else if k = 11 then [45] else if k = 12 then [103] else []
theorem tw_nil {k : Int} : tw k = [] ↔ ¬ wi k 0 12 = true := by
  rw [wi_iff]
  constructor
  · intro h hk
    obtain ⟨n, rfl⟩ := Int.eq_ofNat_of_zero_le hk.1
    have h2 : n ≤ 12 := by omega
    match n, h2 with
    | 0, _ | 1, _ | 2, _ | 3, _ | 4, _ | 5, _ | 6, _ | 7, _ | 8, _ | 9, _ | 10, _ | 11, _ | 12, _ => simp [tw] at h
  · intro h
    rw [tw, if_neg (by omega), if_neg (by omega), if_neg (by omega), if_neg (by omega), if_neg (by omega), if_neg (by omega), if_neg (by omega), if_neg (by omega), if_neg (by omega), if_neg (by omega)]
set_option maxRecDepth 100000 in
set_option maxHeartbeats 2000000 in
theorem told17_any (k : Int) (w : World) : Calls Tryz.prog 42 #[.int .i64 k] w fun e w' => e = .returned (sv (tw k)) ∧ w' = w := by
  by_cases h : 0 ≤ k ∧ k ≤ 12
  · obtain ⟨n, rfl⟩ := Int.eq_ofNat_of_zero_le h.1
    have h2 : n ≤ 12 := by omega
    match n, h2 with
    | 0, _ | 1, _ | 2, _ | 3, _ | 4, _ | 5, _ | 6, _ | 7, _ | 8, _ | 9, _ | 10, _ | 11, _ | 12, _ =>
      go_enter Tryz.func42, Tryz.ntmps42
      go_wp2
      go_ret
      exact ⟨rfl, rfl⟩
  · have e : tw k = [] := tw_nil.2 (by rw [wi_iff]; exact h)
    rw [e]
    have a0 : (k == 0) = false := by simp; omega
    have a1 : (k == 1) = false := by simp; omega
    have a2 : (k == 2) = false := by simp; omega
    have a3 : (k == 3) = false := by simp; omega
    have a4 : (k == 4) = false := by simp; omega
    have a5 : (k == 5) = false := by simp; omega
    have a6 : (k == 6) = false := by simp; omega
    have a7 : (k == 7) = false := by simp; omega
    have a8 : (k == 8) = false := by simp; omega
    have a9 : (k == 9) = false := by simp; omega
    have a10 : (k == 10) = false := by simp; omega
    have a11 : (k == 11) = false := by simp; omega
    have a12 : (k == 12) = false := by simp; omega
    go_enter Tryz.func42, Tryz.ntmps42
    go_wp2
    go_ret
    exact ⟨rfl, rfl⟩
def hhB (l : List (List UInt8)) : Bool := decide ((l.length : Int) ≤ 32768) && l.all fun p => decide (p.length = 32)
set_option maxRecDepth 100000 in
set_option maxHeartbeats 1000000 in
theorem hashes17_any (u : Value) (l : List (List UInt8)) (hl : l.length ≤ maxLen) (w : World) (hs : Slc w u l) :
    Calls Tryz.prog 77 #[u] w fun e w' => e = .returned (.bool (hhB l)) ∧ w' = w := by
  obtain ⟨a, ca, rfl, ha⟩ := hs
  unfold maxLen at hl
  have Ha := hid ha
  clear ha
  by_cases h2 : (32768 : Int) < (l.length : Int)
  · rw [show hhB l = false from by rw [hhB, decide_eq_false (by omega), Bool.false_and]]
    go_enter Tryz.func77, Tryz.ntmps77
    go_wp2
    go_ret
    exact ⟨rfl, rfl⟩
  · rw [show hhB l = l.all (fun p => decide (p.length = 32)) from by rw [hhB, decide_eq_true (by omega), Bool.true_and]]
    obtain ⟨R, hR⟩ : ∃ R, Hid (l.all (fun p => decide (p.length = 32)) = R) := ⟨_, rfl⟩
    rw [hR.out]
    go_enter Tryz.func77, Tryz.ntmps77
    go_wp2
    go_loopw [3] (fun i w' => ∃ k : Nat, k ≤ l.length ∧ i = .int .i64 k ∧ Hid (∀ p ∈ l.take k, p.length = 32) ∧ w' = w) (fun i _ => l.length - (intOf i).toNat)
    case atStart => exact ⟨0, by omega, rfl, hid (fun p hp => by simp at hp), rfl⟩
    case round =>
      obtain ⟨k, hk, rfl, hH, rfl⟩ := hrel
      by_cases hlt : k < l.length
      · have b0 : (k : Int) < (l.length : Int) := by omega
        obtain ⟨x, rfl, xb, hx⟩ := Ha.out k l[k] (List.getElem?_eq_getElem hlt)
        obtain ⟨P, hP⟩ : ∃ P : ByteArray, Hid (sv l[k] = .string P ∧ P.size = l[k].length) := ⟨⟨l[k].toArray⟩, rfl, sv_size _⟩
        rw [hP.out.1] at hx
        have hPs := hP.out.2
        by_cases hm : P.size = 32
        · have HN : Hid (∀ p ∈ l.take (k + 1), p.length = 32) := fun p hp => by
            rw [List.take_add_one, List.getElem?_eq_getElem hlt] at hp
            rcases List.mem_append.1 hp with hp | hp
            · exact hH.out p hp
            · simp at hp
              subst hp
              omega
          have y1 : ((P.size : Int) == 32) = true := by simp; omega
          clear hPs
          go_wp2
          exact ⟨⟨k + 1, by omega, by go_num, HN, (by first | rfl | trivial)⟩, by simp [intOf]; omega⟩
        · have e : l.all (fun p => decide (p.length = 32)) = false := by
            rw [List.all_eq_false]
            exact ⟨l[k], List.getElem_mem hlt, by simp; omega⟩
          have HE := hid e
          have y1 : ((P.size : Int) == 32) = false := by simp; omega
          clear hPs e
          go_wp2
          go_ret
          exact ⟨by rw [← hR.out, HE.out]; rfl, rfl⟩
      · have b0 : ¬ (k : Int) < (l.length : Int) := by omega
        obtain rfl : k = l.length := by omega
        have e : l.all (fun p => decide (p.length = 32)) = true := by
          rw [List.all_eq_true]
          intro p hp
          exact decide_eq_true (hH.out p (by rwa [List.take_length]))
        have HE := hid e
        clear e
        go_wp2
        go_ret
        exact ⟨by rw [← hR.out, HE.out]; rfl, rfl⟩
def mrB (x : Part) (wd : List UInt8) : Bool :=
  (!hasB wd 115 && !decide (x.size = 0)) || ((!hasB wd 97 && !decide (x.a = 0)) || ((!hasB wd 98 && !decide (x.b = 0)) || ((!hasB wd 114 && !decide (x.root = [])) || ((!hasB wd 104 && decide (0 < x.hs.length)) || ((!hasB wd 101 && decide (0 < x.ent.length)) || (!hasB wd 103 && decide (0 < x.n)))))))
end Msg
end Go.Proofs.YtmhgdcfmfcjagaaGreatDoor

namespace Go.Proofs.YtmhgdcfmfcjagaaGreatDoor
open Go.RowKit Cod
namespace Msg
set_option maxRecDepth 100000 in
set_option maxHeartbeats 4000000 in
theorem more17_m (x : Part) (p1 p2 p3 : Option Addr) (q1 q2 q3 : Nat) (w : World) (hm : mrB x [45] = false) :
    Calls Tryz.prog 76 #[.agg #[.int .i64 x.status, .int .i64 x.size, .int .i64 x.a, .int .i64 x.b, sv x.root, .slice p1 x.hs.length q1, .slice p2 x.ent.length q2, .slice p3 x.n q3], .string ⟨#[45]⟩] w fun e w' => e = .returned (.bool false) ∧ Below w.heap.size w w' := by
  obtain ⟨P, hP⟩ : ∃ P : ByteArray, Hid (sv x.root = .string P ∧ P.toList.isEmpty = decide (x.root = [])) := ⟨⟨x.root.toArray⟩, rfl, by rw [isEmpty_data, sv_size]; exact decide_eq_decide.2 List.length_eq_zero_iff⟩
  rw [hP.out.1]
  have i115 : ∀ w, Calls Tryz.prog 68 #[.string ⟨#[45]⟩, .int .u8 115] w fun e w' => e = .returned (.bool false) ∧ w' = w := fun w => has17_any ⟨#[45]⟩ 115 (by decide) w
  have i97 : ∀ w, Calls Tryz.prog 68 #[.string ⟨#[45]⟩, .int .u8 97] w fun e w' => e = .returned (.bool false) ∧ w' = w := fun w => has17_any ⟨#[45]⟩ 97 (by decide) w
  have i98 : ∀ w, Calls Tryz.prog 68 #[.string ⟨#[45]⟩, .int .u8 98] w fun e w' => e = .returned (.bool false) ∧ w' = w := fun w => has17_any ⟨#[45]⟩ 98 (by decide) w
  have i114 : ∀ w, Calls Tryz.prog 68 #[.string ⟨#[45]⟩, .int .u8 114] w fun e w' => e = .returned (.bool false) ∧ w' = w := fun w => has17_any ⟨#[45]⟩ 114 (by decide) w
  have i104 : ∀ w, Calls Tryz.prog 68 #[.string ⟨#[45]⟩, .int .u8 104] w fun e w' => e = .returned (.bool false) ∧ w' = w := fun w => has17_any ⟨#[45]⟩ 104 (by decide) w
  have i101 : ∀ w, Calls Tryz.prog 68 #[.string ⟨#[45]⟩, .int .u8 101] w fun e w' => e = .returned (.bool false) ∧ w' = w := fun w => has17_any ⟨#[45]⟩ 101 (by decide) w
  have i103 : ∀ w, Calls Tryz.prog 68 #[.string ⟨#[45]⟩, .int .u8 103] w fun e w' => e = .returned (.bool false) ∧ w' = w := fun w => has17_any ⟨#[45]⟩ 103 (by decide) w
  simp [mrB, hasB] at hm
  obtain ⟨h0, h1, h2, h3, h4, h5, h6⟩ := hm
  have t0 : (x.size == 0) = true := by simp [h0]
  have t1 : (x.a == 0) = true := by simp [h1]
  have t2 : (x.b == 0) = true := by simp [h2]
  have t3 : P.toList.isEmpty = true := by rw [hP.out.2, decide_eq_true h3]
  have t4 : ¬ (0 : Int) < ((x.hs.length : Nat) : Int) := by rw [h4]; simp
  have t5 : ¬ (0 : Int) < ((x.ent.length : Nat) : Int) := by rw [h5]; simp
  have t6 : ¬ (0 : Int) < ((x.n : Nat) : Int) := by rw [h6]; simp
  go_enter Tryz.func76, Tryz.ntmps76
  go_wp2_with (go_at_call 68; (first | (with_reducible refine (i115 _).mono ?_) | (with_reducible refine (i97 _).mono ?_) | (with_reducible refine (i98 _).mono ?_) | (with_reducible refine (i114 _).mono ?_) | (with_reducible refine (i104 _).mono ?_) | (with_reducible refine (i101 _).mono ?_) | (with_reducible refine (i103 _).mono ?_)); rintro e w' ⟨rfl, hw'⟩; rw [hw']; clear hw' w')
  go_ret
  exact ⟨rfl, (Below.refl _ _).alloc (Nat.le_refl _) _⟩
set_option maxRecDepth 100000 in
set_option maxHeartbeats 4000000 in
theorem more17_sar (x : Part) (p1 p2 p3 : Option Addr) (q1 q2 q3 : Nat) (w : World) (hm : mrB x [115, 97, 114] = false) :
    Calls Tryz.prog 76 #[.agg #[.int .i64 x.status, .int .i64 x.size, .int .i64 x.a, .int .i64 x.b, sv x.root, .slice p1 x.hs.length q1, .slice p2 x.ent.length q2, .slice p3 x.n q3], .string ⟨#[115, 97, 114]⟩] w fun e w' => e = .returned (.bool false) ∧ Below w.heap.size w w' := by
  obtain ⟨P, hP⟩ : ∃ P : ByteArray, Hid (sv x.root = .string P ∧ P.toList.isEmpty = decide (x.root = [])) := ⟨⟨x.root.toArray⟩, rfl, by rw [isEmpty_data, sv_size]; exact decide_eq_decide.2 List.length_eq_zero_iff⟩
  rw [hP.out.1]
  have i115 : ∀ w, Calls Tryz.prog 68 #[.string ⟨#[115, 97, 114]⟩, .int .u8 115] w fun e w' => e = .returned (.bool true) ∧ w' = w := fun w => has17_any ⟨#[115, 97, 114]⟩ 115 (by decide) w
  have i97 : ∀ w, Calls Tryz.prog 68 #[.string ⟨#[115, 97, 114]⟩, .int .u8 97] w fun e w' => e = .returned (.bool true) ∧ w' = w := fun w => has17_any ⟨#[115, 97, 114]⟩ 97 (by decide) w
  have i98 : ∀ w, Calls Tryz.prog 68 #[.string ⟨#[115, 97, 114]⟩, .int .u8 98] w fun e w' => e = .returned (.bool false) ∧ w' = w := fun w => has17_any ⟨#[115, 97, 114]⟩ 98 (by decide) w
  have i114 : ∀ w, Calls Tryz.prog 68 #[.string ⟨#[115, 97, 114]⟩, .int .u8 114] w fun e w' => e = .returned (.bool true) ∧ w' = w := fun w => has17_any ⟨#[115, 97, 114]⟩ 114 (by decide) w
  have i104 : ∀ w, Calls Tryz.prog 68 #[.string ⟨#[115, 97, 114]⟩, .int .u8 104] w fun e w' => e = .returned (.bool false) ∧ w' = w := fun w => has17_any ⟨#[115, 97, 114]⟩ 104 (by decide) w
  have i101 : ∀ w, Calls Tryz.prog 68 #[.string ⟨#[115, 97, 114]⟩, .int .u8 101] w fun e w' => e = .returned (.bool false) ∧ w' = w := fun w => has17_any ⟨#[115, 97, 114]⟩ 101 (by decide) w
  have i103 : ∀ w, Calls Tryz.prog 68 #[.string ⟨#[115, 97, 114]⟩, .int .u8 103] w fun e w' => e = .returned (.bool false) ∧ w' = w := fun w => has17_any ⟨#[115, 97, 114]⟩ 103 (by decide) w
  simp [mrB, hasB] at hm
  obtain ⟨h0, h1, h2, h3⟩ := hm
  have t0 : (x.b == 0) = true := by simp [h0]
  have t1 : ¬ (0 : Int) < ((x.hs.length : Nat) : Int) := by rw [h1]; simp
  have t2 : ¬ (0 : Int) < ((x.ent.length : Nat) : Int) := by rw [h2]; simp
  have t3 : ¬ (0 : Int) < ((x.n : Nat) : Int) := by rw [h3]; simp
  go_enter Tryz.func76, Tryz.ntmps76
  go_wp2_with (go_at_call 68; (first | (with_reducible refine (i115 _).mono ?_) | (with_reducible refine (i97 _).mono ?_) | (with_reducible refine (i98 _).mono ?_) | (with_reducible refine (i114 _).mono ?_) | (with_reducible refine (i104 _).mono ?_) | (with_reducible refine (i101 _).mono ?_) | (with_reducible refine (i103 _).mono ?_)); rintro e w' ⟨rfl, hw'⟩; rw [hw']; clear hw' w')
  go_ret
  exact ⟨rfl, (Below.refl _ _).alloc (Nat.le_refl _) _⟩
set_option maxRecDepth 100000 in
set_option maxHeartbeats 4000000 in
theorem more17_sr (x : Part) (p1 p2 p3 : Option Addr) (q1 q2 q3 : Nat) (w : World) (hm : mrB x [115, 114] = false) :
    Calls Tryz.prog 76 #[.agg #[.int .i64 x.status, .int .i64 x.size, .int .i64 x.a, .int .i64 x.b, sv x.root, .slice p1 x.hs.length q1, .slice p2 x.ent.length q2, .slice p3 x.n q3], .string ⟨#[115, 114]⟩] w fun e w' => e = .returned (.bool false) ∧ Below w.heap.size w w' := by
  obtain ⟨P, hP⟩ : ∃ P : ByteArray, Hid (sv x.root = .string P ∧ P.toList.isEmpty = decide (x.root = [])) := ⟨⟨x.root.toArray⟩, rfl, by rw [isEmpty_data, sv_size]; exact decide_eq_decide.2 List.length_eq_zero_iff⟩
  rw [hP.out.1]
  have i115 : ∀ w, Calls Tryz.prog 68 #[.string ⟨#[115, 114]⟩, .int .u8 115] w fun e w' => e = .returned (.bool true) ∧ w' = w := fun w => has17_any ⟨#[115, 114]⟩ 115 (by decide) w
  have i97 : ∀ w, Calls Tryz.prog 68 #[.string ⟨#[115, 114]⟩, .int .u8 97] w fun e w' => e = .returned (.bool false) ∧ w' = w := fun w => has17_any ⟨#[115, 114]⟩ 97 (by decide) w
  have i98 : ∀ w, Calls Tryz.prog 68 #[.string ⟨#[115, 114]⟩, .int .u8 98] w fun e w' => e = .returned (.bool false) ∧ w' = w := fun w => has17_any ⟨#[115, 114]⟩ 98 (by decide) w
  have i114 : ∀ w, Calls Tryz.prog 68 #[.string ⟨#[115, 114]⟩, .int .u8 114] w fun e w' => e = .returned (.bool true) ∧ w' = w := fun w => has17_any ⟨#[115, 114]⟩ 114 (by decide) w
  have i104 : ∀ w, Calls Tryz.prog 68 #[.string ⟨#[115, 114]⟩, .int .u8 104] w fun e w' => e = .returned (.bool false) ∧ w' = w := fun w => has17_any ⟨#[115, 114]⟩ 104 (by decide) w
  have i101 : ∀ w, Calls Tryz.prog 68 #[.string ⟨#[115, 114]⟩, .int .u8 101] w fun e w' => e = .returned (.bool false) ∧ w' = w := fun w => has17_any ⟨#[115, 114]⟩ 101 (by decide) w
  have i103 : ∀ w, Calls Tryz.prog 68 #[.string ⟨#[115, 114]⟩, .int .u8 103] w fun e w' => e = .returned (.bool false) ∧ w' = w := fun w => has17_any ⟨#[115, 114]⟩ 103 (by decide) w
  simp [mrB, hasB] at hm
  obtain ⟨h0, h1, h2, h3, h4⟩ := hm
  have t0 : (x.a == 0) = true := by simp [h0]
  have t1 : (x.b == 0) = true := by simp [h1]
  have t2 : ¬ (0 : Int) < ((x.hs.length : Nat) : Int) := by rw [h2]; simp
  have t3 : ¬ (0 : Int) < ((x.ent.length : Nat) : Int) := by rw [h3]; simp
  have t4 : ¬ (0 : Int) < ((x.n : Nat) : Int) := by rw [h4]; simp
  go_enter Tryz.func76, Tryz.ntmps76
  go_wp2_with (go_at_call 68; (first | (with_reducible refine (i115 _).mono ?_) | (with_reducible refine (i97 _).mono ?_) | (with_reducible refine (i98 _).mono ?_) | (with_reducible refine (i114 _).mono ?_) | (with_reducible refine (i104 _).mono ?_) | (with_reducible refine (i101 _).mono ?_) | (with_reducible refine (i103 _).mono ?_)); rintro e w' ⟨rfl, hw'⟩; rw [hw']; clear hw' w')
  go_ret
  exact ⟨rfl, (Below.refl _ _).alloc (Nat.le_refl _) _⟩
end Msg
end Go.Proofs.YtmhgdcfmfcjagaaGreatDoor
