import Derived.Test.YteilkpihddfpeaaGreatDoorPkMV1
import Derived.Test.YteilkpihddfpeaaGreatDoorPkMV2
import Derived.Test.YteilkpihddfpeaaGreatDoorPkMW7
namespace Go.Proofs.YteilkpihddfpeaaGreatDoor
open Go.RowKit Cod
namespace Msg

/-- a reply as a value -/
def rpV (x : Part) (uh ue up : Value) : Value := .agg #[.int .i64 x.status, .int .i64 x.size, .int .i64 x.a, .int .i64 x.b, sv x.root, uh, ue, up]
set_option maxRecDepth 100000 in
set_option maxHeartbeats 1000000 in
theorem formOf_any (x : Part) (p1 p2 p3 : Option Addr) (n1 n2 n3 q1 q2 q3 : Nat) (w : World) :
    Calls Tryz.prog 106 #[.agg #[.int .i64 x.status, .int .i64 x.size, .int .i64 x.a, .int .i64 x.b, .string ⟨x.root.toArray⟩, .slice p1 n1 q1, .slice p2 n2 q2, .slice p3 n3 q3]] w fun e w' => e = .returned (.int .i64 (fm x)) ∧ Below w.heap.size w w' := by
  by_cases hr : x.root = []
  · rw [fm, if_pos hr, hr]
    go_enter Tryz.func106, Tryz.ntmps106
    go_wp2
    go_ret
    exact ⟨rfl, (Below.refl _ _).alloc (Nat.le_refl _) _⟩
  · rw [fm, if_neg hr]
    have hb : (⟨x.root.toArray⟩ : ByteArray).toList.isEmpty = false := by
      rw [isEmpty_data, sv_size]
      exact decide_eq_false (fun e => hr (List.length_eq_zero_iff.1 e))
    generalize (⟨x.root.toArray⟩ : ByteArray) = rb at *
    go_enter Tryz.func106, Tryz.ntmps106
    go_wp2
    go_ret
    exact ⟨rfl, (Below.refl _ _).alloc (Nat.le_refl _) _⟩
theorem Part.of_put (c : Nat) (x : Part) (uh ue up : Value) (k : Int) : (rpArr (lay c) x uh ue up Part.zero (.slice none 0 0) (.slice none 0 0) (.slice none 0 0)).setIfInBounds 9 (.int .i64 k) = rpArr (lay c) x uh ue up (Part.of k) (.slice none 0 0) (.slice none 0 0) (.slice none 0 0) := rfl
set_option maxRecDepth 100000 in
set_option maxHeartbeats 2000000 in
theorem isDoneL_yes {w : World} {base b c d : Nat} {v : Value} {s : LS} {x : Part} {uh ue up : Value} (h : Pa w base b c d v s x uh ue up Part.zero (.slice none 0 0) (.slice none 0 0) (.slice none 0 0)) (hm : Sm s 140600000000000) (least : Int) (hw : wi x.status least 8 = true) :
    Calls Tryz.prog 40 #[.pointer (some ⟨d, 0, none⟩), .int .i64 least] w fun e w' => e = .returned (.bool (decide (x.status = 0))) ∧ GPost w base b c d v (lMark x.status least 8 s) x uh ue up (Part.of x.status) w' := by
  have c0 : w.cell? ⟨d, 0, none⟩ = some (lay c) := by rw [cell_of_row _ _ _ _ _ _ h.row]; rfl
  have c4 : w.cell? ⟨d, 1, none⟩ = some (.int .i64 x.status) := by rw [cell_of_row _ _ _ _ _ _ h.row]; rfl
  have i1 := layMark_any x.status least 8 w.drew h.ly.drew (hm.mono (by omega))
  rw [hw, if_pos rfl] at i1
  rw [lay] at c0
  have mm := m_laying_mark ⟨c, 0, none⟩
  have HQ := hid h
  obtain ⟨st, hst⟩ : ∃ st, Hid (x.status = st) := ⟨_, rfl⟩
  rw [hst.out] at i1 c4 ⊢
  have F : Hid (∀ w2, Lo w base b c v (lMark st least 8 s) w2 → GPost w base b c d v (lMark st least 8 s) x uh ue up (Part.of st) (w2.setCell ⟨d, 9, none⟩ (.int .i64 st)) ∧ w2.cell? ⟨d, 0, none⟩ = some (lay c) ∧ w2.cell? ⟨d, 1, none⟩ = some (.int .i64 st) ∧ w2.cell? ⟨d, 9, none⟩ = some (.int .i64 0) ∧ w2.frozen? ⟨d, 9, none⟩ = false) := fun w2 hl => by
    have hrow := HQ.out.row2 hl
    refine ⟨HQ.out.put hl 9 _ _ _ _ _ (Part.of_put c x uh ue up st) ⟨_, _, rfl⟩ ⟨_, _, rfl⟩ ⟨_, _, rfl⟩, by rw [cell_of_row _ _ _ _ _ _ hrow]; rfl, by rw [cell_of_row _ _ _ _ _ _ hrow, ← hst.out]; rfl, by rw [cell_of_row _ _ _ _ _ _ hrow]; rfl, frozen_of_row _ _ _ _ _ hrow⟩
  clear h hm hw
  by_cases h0 : st = 0
  · subst h0
    rw [decide_eq_true rfl]
    go_enter Tryz.func40, Tryz.ntmps40
    go_wp2
    go_region_held3 (fun w' => w'.cell? ⟨d, 0, none⟩ = some (.iface 72 (.pointer (some ⟨c, 0, none⟩))) ∧ w'.cell? ⟨d, 1, none⟩ = some (.int .i64 0)) (first | exact ⟨c0, c4⟩ | exact S2) (first | (go_at_call 88; (with_reducible refine i1.mono ?_); rintro e w2 ⟨rfl, hl⟩; obtain ⟨f1, f2, f3, f4, f5⟩ := F.out w2 hl.drew; rw [lay] at f2; have S2 := And.intro f2 f3; have HG := hid f1; clear hl f1 f2 f3))
    go_wp2
    go_ret
    exact ⟨rfl, HG.out⟩
  · rw [decide_eq_false h0]
    have hb : (st == 0) = false := by simp [h0]
    go_enter Tryz.func40, Tryz.ntmps40
    go_wp2
    go_region_held3 (fun w' => w'.cell? ⟨d, 0, none⟩ = some (.iface 72 (.pointer (some ⟨c, 0, none⟩))) ∧ w'.cell? ⟨d, 1, none⟩ = some (.int .i64 st)) (first | exact ⟨c0, c4⟩ | exact S2) (first | (go_at_call 88; (with_reducible refine i1.mono ?_); rintro e w2 ⟨rfl, hl⟩; obtain ⟨f1, f2, f3, f4, f5⟩ := F.out w2 hl.drew; rw [lay] at f2; have S2 := And.intro f2 f3; have HG := hid f1; clear hl f1 f2 f3))
    go_wp2
    go_ret
    exact ⟨rfl, HG.out⟩
/-- a reply's field, whatever it is -/
def GC (w0 : World) (M base b c d : Nat) (x : Part) (uh ue up : Value) (da : LS → LS) (g : Fr) : Prop :=
  ∀ (w : World) (v : Value) (s : LS) (t : Part) (th te tp : Value), Below base w0 w → Pa w base b c d v s x uh ue up t th te tp → Sm s M →
    Calls Tryz.prog (rnum g) #[.pointer (some ⟨d, 0, none⟩)] w fun e w' => e = .returned (.tuple #[]) ∧ GPost w base b c d v (lFr x da g s) x uh ue up (setR x g t) w'
theorem GC.bl {w0 w1 : World} {M base b c d : Nat} {x : Part} {uh ue up : Value} {da : LS → LS} {g : Fr} (h : GC w0 M base b c d x uh ue up da g) (hb : Below base w0 w1) : GC w1 M base b c d x uh ue up da g := fun w v s t th te tp h1 => h w v s t th te tp (hb.trans h1)
theorem gc_six {w0 : World} {M base b c d : Nat} {x : Part} {uh ue up : Value} {da : LS → LS} (hM : M ≤ 140600000000000) (hf : PFit x) (g : Fr) (hg : g ≠ .parts) : GC w0 M base b c d x uh ue up da g := fun w v s t th te tp _ h hm => by
  have hm := hm.mono hM
  cases g with
  | size => exact g_size h hf hm da
  | a => exact g_a h hf hm da
  | over => exact g_over h hf hm da
  | root => exact g_root h hf hm da
  | hashes => exact g_hashes h hf hm da
  | parts => exact absurd rfl hg
  | entries => exact g_entries h hf hm da
theorem Pa.below {w w' : World} {base b c d : Nat} {v : Value} {s : LS} {x : Part} {uh ue up : Value} {t : Part} {th te tp : Value} (h : Pa w base b c d v s x uh ue up t th te tp) (hb : Below w.heap.size w w') : Pa w' base b c d v s x uh ue up t th te tp :=
  ⟨h.ly.below hb, (hb.block d h.lt).trans h.row, h.dn, h.ge, h.l1, h.l2, h.l1.slc h.s1 (hb.mono h.ly.base), h.l2.slc h.s2 (hb.mono h.ly.base), h.s3, h.t1, h.t2, h.t3⟩
theorem Pa.in {w : World} {base b c d : Nat} {v : Value} {s : LS} {x : Part} {uh ue up : Value} {t : Part} {th te tp : Value} (h : Pa w base b c d v s x uh ue up t th te tp) : ∀ k, QSet b c d v k → base ≤ k ∧ k < w.heap.size := fun k hk => by
  rcases hk with rfl | hk
  · exact ⟨h.ge, h.lt⟩
  · exact h.ly.ge' k hk
theorem Pa.bl {w w' : World} {base b c d : Nat} {v : Value} {s : LS} {x : Part} {uh ue up : Value} {t : Part} {th te tp : Value} (h : Pa w base b c d v s x uh ue up t th te tp) (k : Keep (QSet b c d v) w w') : Below base w w' := k.below h.ly.base fun j hj e => by have := (h.in j e).1; omega
theorem GPost.step {w w1 w2 : World} {base b c d : Nat} {v v1 : Value} {s : LS} {x : Part} {uh ue up : Value} {t : Part} (k : Keep (QSet b c d v) w w1) (f : From w v v1) (h : GPost w1 base b c d v1 s x uh ue up t w2) : GPost w base b c d v s x uh ue up t w2 := by
  obtain ⟨v2, th, te, tp, h1, h2, h3⟩ := h
  refine ⟨v2, th, te, tp, h1, k.trans h2 fun j hj e => ?_, f.trans h3 k.size⟩
  rcases QSet.from f j e with g | g
  · exact g
  · omega
theorem lFrs_snoc (x : Part) (da : LS → LS) (fs : List Fr) (k : Nat) (hk : k < fs.length) (s : LS) : lFrs x da (fs.take (k + 1)) s = lFr x da fs[k] (lFrs x da (fs.take k) s) := by
  rw [lFrs, List.take_add_one, List.getElem?_eq_getElem hk, List.foldl_append]; rfl
theorem setRs_snoc (x : Part) (fs : List Fr) (k : Nat) (hk : k < fs.length) (t : Part) : setRs x (fs.take (k + 1)) t = setR x fs[k] (setRs x (fs.take k) t) := by
  rw [setRs, List.take_add_one, List.getElem?_eq_getElem hk, List.foldl_append]; rfl
/-- while the fields are laid down -/
structure Gf (w2 w' : World) (base b c d : Nat) (u v2 : Value) (k : Nat) (fs : List Fr) (s : LS) (x : Part) (uh ue up : Value) (t : Part) (da : LS → LS) : Prop where
  q : ∃ v' th te tp, Pa w' base b c d v' (lFrs x da (fs.take k) s) x uh ue up (setRs x (fs.take k) t) th te tp ∧ Keep (QSet b c d v2) w2 w' ∧ From w2 v2 v'
  own : Own w' 0 u (fs.map rv)
  gn : ∀ g, u.ownBlock = some g → ¬ QSet b c d v2 g ∧ g < w2.heap.size
theorem Gf.next {w2 w' w3 : World} {base b c d : Nat} {u v2 v' : Value} {k : Nat} {fs : List Fr} {s : LS} {x : Part} {uh ue up : Value} {t : Part} {da : LS → LS} (h : Gf w2 w' base b c d u v2 k fs s x uh ue up t da) (hk : k < fs.length)
    (kp : Keep (QSet b c d v2) w2 w') (fr : From w2 v2 v') (p : GPost w' base b c d v' (lFr x da fs[k] (lFrs x da (fs.take k) s)) x uh ue up (setR x fs[k] (setRs x (fs.take k) t)) w3) : Gf w2 w3 base b c d u v2 (k + 1) fs s x uh ue up t da := by
  obtain ⟨v4, th, te, tp, h1, h2, h3⟩ := p
  refine ⟨⟨v4, th, te, tp, ?_, kp.trans h2 fun j hj e => ?_, fr.trans h3 kp.size⟩, h.own.keep h2 fun g hg e => ?_, h.gn⟩
  · rw [lFrs_snoc x da fs k hk, setRs_snoc x fs k hk]; exact h1
  · rcases QSet.from fr j e with g | g
    · exact g
    · omega
  · obtain ⟨n1, n2⟩ := h.gn g hg
    rcases QSet.from fr g e with e | e
    · exact n1 e
    · omega
theorem own_cell {w : World} {base : Nat} {u : Value} {cs : List Value} (h : Own w base u cs) {k : Nat} {y : Value} (hk : cs[k]? = some y) : ∃ g q, u = .slice (some ⟨g, 0, none⟩) cs.length q ∧ w.cell? ⟨g, k, none⟩ = some y := by
  rcases h with ⟨_, rfl⟩ | ⟨g, cap, rfl, h1, h2, h3, h4, h5, h6⟩
  · simp at hk
  · refine ⟨g, cap, rfl, ?_⟩
    have := h4 k y hk
    rwa [Nat.zero_add] at this
theorem sm_fr {x : Part} (hf : PFit x) {da : LS → LS} {fs : List Fr} {K : Nat} (hK : 68719476736 ≤ K) (hd : .parts ∈ fs → ∀ s m, Sm s m → Sm (da s) (m + K)) : ∀ (k : Nat) (s : LS) (m : Nat), Sm s m → k ≤ fs.length → Sm (lFrs x da (fs.take k) s) (m + k * K)
  | 0, s, m, h, _ => by simpa [lFrs] using h
  | k + 1, s, m, h, hk => by
    rw [lFrs_snoc x da fs k (by omega)]
    have ih := sm_fr hf hK hd k s m h (by omega)
    have hk1 : (k + 1) * K = k * K + K := by rw [Nat.add_mul, Nat.one_mul]
    have h9 : ∀ n : Int, isSz n = true → (digs n.toNat).length ≤ 9 := fun n hn => digs_len9 (by rw [isSz, wi_iff] at hn; omega)
    have hz : ∀ n : Int, Sm (lSize n (lFrs x da (fs.take k) s)) (m + (k + 1) * K) := fun n => by
      by_cases hs : isSz n = true
      · exact (ih.lif (isSz n) _ _).mono (by have := h9 n hs; omega)
      · rw [lSize, lif_no (by simpa using hs)]; exact (show Sm (_, true) _ from ih).mono (by omega)
    have hm : fs[k] ∈ fs := List.getElem_mem _
    generalize fs[k] = g at *
    cases g with
    | size => exact hz _
    | a => exact hz _
    | over => exact (ih.lif _ _ _).mono (by simp; omega)
    | root =>
      by_cases h32 : x.root.length = 32
      · exact (ih.lif _ _ _).mono (by omega)
      · show Sm (lif (decide (x.root.length = 32)) 0 x.root _) _
        rw [lif_no (decide_eq_false h32)]; exact (show Sm (_, true) _ from ih).mono (by omega)
    | hashes => exact (show Sm (lHashes x.hs _) _ from ih.lif_if (n := 68719476736) fun _ e => hashes_fit e).mono (by omega)
    | parts => exact (hd hm _ _ ih).mono (by omega)
    | entries => exact (show Sm (lTexts x.ent 0 4096 1000 _) _ from ih.lif_if (n := 68719476736) fun _ e => texts_fit (many := 4096) (most := 1000) e (by decide) (by decide)).mono (by omega)
theorem rflds_len (k : Nat) : (rflds k).length ≤ 4 := by
  match k with
  | 0 | 1 | 2 | 3 | 4 | 5 | 6 | 7 | 8 | 9 | 10 | 11 | 12 | n + 13 => first | decide | exact Nat.zero_le _
end Msg
end Go.Proofs.YteilkpihddfpeaaGreatDoor
