import Derived.Test.YtkamjpjmdibfgaaPkKP8
/- Layer 15, the program: Pin, Unpin, Drop -/
namespace Go.Proofs.Ytkamjpjmdibfgaa
open Go.RowKit Go.Maps
namespace Kc
def re (e : En) (q : Nat) : En := { e with p := q }
theorem hd_re (Y : List En) (e : En) (q : Nat) (z : Option Nat) (X : List En) : hd (X ++ re e q :: Y) z = hd (X ++ e :: Y) z := by cases X <;> rfl
theorem ls_re (Y : List En) (e : En) (q : Nat) (z : Option Nat) (X : List En) : ls z (X ++ re e q :: Y) = ls z (X ++ e :: Y) := by rw [ls_append, ls_append]; rfl
theorem pl_re {w : World} {e : En} {nw ol : Option Nat} (h : pl w e nw ol) (q : Nat) : pl (w.setCell ⟨e.b, 2, none⟩ (.int .i64 (q : Int))) (re e q) nw ol := by
  unfold pl at *
  show (w.setCell ⟨e.b, 2, none⟩ (.int .i64 (q : Int))).heap[e.b]? = _
  rw [heap_setCell_same _ _ _ _ _ _ h]; rfl
theorem Li.sp {w : World} {a : Nat} {X Y : List En} {e : En} {x0 x3 x4 x5 x6 x7 x8 x9 : Value} (h : Li w a (X ++ e :: Y) x0 x3 x4 x5 x6 x7 x8 x9) (q : Nat) : Li (w.setCell ⟨e.b, 2, none⟩ (.int .i64 (q : Int))) a (X ++ re e q :: Y) x0 x3 x4 x5 x6 x7 x8 x9 := by
  obtain ⟨n1, n2, n3, n4⟩ := nd_mid h.nb
  obtain ⟨s1, s2, s3⟩ := seg_append.1 h.seg
  refine ⟨?_, ?_, ?_⟩
  · rw [hd_re, ls_re]; exact (heap_setCell_other _ _ _ _ n2).trans h.row
  · refine seg_append.2 ⟨seg_set s1 (fun z hz => n3 z (by simp [hz])) _ _, pl_re s2 q, ?_⟩
    exact seg_set s3 (fun z hz => n3 z (by simp [hz])) _ _
  · have := h.nb
    rw [List.map_append, List.map_cons] at this ⊢
    exact this
theorem fnd_re {X Y : List En} {e : En} (q : Nat) (k : List UInt8) : (fnd k (X ++ re e q :: Y)).map En.b = (fnd k (X ++ e :: Y)).map En.b := by
  induction X with
  | nil =>
    show (fnd k (re e q :: Y)).map En.b = (fnd k (e :: Y)).map En.b
    unfold fnd
    show (if e.k = k then some (re e q) else fnd k Y).map En.b = _
    split <;> rfl
  | cons x X ih =>
    show (fnd k (x :: (X ++ re e q :: Y))).map En.b = (fnd k (x :: (X ++ e :: Y))).map En.b
    unfold fnd
    split
    · rfl
    · exact ih
def Pq (w : World) (a : Nat) (g : Option Nat) (B c : Nat) (X Y : List En) (e : En) (f m o q : Nat) (w' : World) : Prop := Ch w' a g B c (X ++ re e q :: Y) f m o ∧ Keep (Fg a g (X ++ e :: Y)) w w'
set_option maxRecDepth 100000 in
set_option maxHeartbeats 4000000 in
theorem repin_ok {w : World} {a : Nat} {g : Option Nat} {B c : Nat} {X Y : List En} {e : En} {f m o : Nat} (h : Ch w a g B c (X ++ e :: Y) f m o) (by_ : Int) (q : Nat) (hq : (e.p : Int) + by_ = (q : Int)) (hq2 : q ≤ 65535) :
    Calls Try.prog 43 #[.pointer (some ⟨a, 0, none⟩), .string ⟨e.k.toArray⟩, .int .i64 by_] w fun r w' => r = .returned (.int .i64 0) ∧ Pq w a g B c X Y e f m o q w' := by
  have hk : e.n ≤ 16777216 := by have := h.tt; have := h.bu; simp at *; omega
  have i1 := find_any h.li.cs.2.2.2.1 h.tb e.k (by unfold En.n at hk; omega)
  have hfe : fnd e.k (X ++ e :: Y) = some e := fnd_of_mem h.uq (by simp)
  rw [hfe] at i1
  simp only [Option.map_some, Option.isSome_some, pv] at i1
  have hkl : (ByteArray.mk e.k.toArray).size ≤ 2305843009213693952 := by rw [sv_size]; unfold En.n at hk; omega
  have hvl : (ByteArray.mk e.v.toArray).size ≤ 2305843009213693952 := by rw [sv_size]; unfold En.n at hk; omega
  have i3 := pinned_any ⟨e.k.toArray⟩ ⟨e.v.toArray⟩ e.p hkl hvl
  have i4 := pinned_any ⟨e.k.toArray⟩ ⟨e.v.toArray⟩ q hkl hvl
  rw [sv_size, sv_size] at i3 i4
  rw [show (if e.p = 0 then 0 else e.k.length + e.v.length) = e.q from rfl] at i3
  rw [show (if q = 0 then 0 else e.k.length + e.v.length) = (re e q).q from rfl] at i4
  obtain ⟨P1, s1⟩ : pl w e (ls none X) (hd Y none) ∧ True := ⟨(seg_append.1 h.li.seg).2.1, trivial⟩
  have ea : e.b ≠ a := Ne.symm (nd_mid h.li.nb).2.1
  obtain ⟨n6, hn6⟩ : ∃ n, pnd (X ++ e :: Y) = n := ⟨_, rfl⟩
  obtain ⟨m6, hm6⟩ : ∃ n, n6 - e.q = n := ⟨_, rfl⟩
  obtain ⟨k6, hk6⟩ : ∃ n, m6 + (re e q).q = n := ⟨_, rfl⟩
  have hpl := pnd_le (X ++ e :: Y)
  have htt := h.tt
  have hbu := h.bu
  have heq : e.q ≤ n6 := by rw [← hn6]; simp; omega
  have hrq : (re e q).q ≤ e.n := q_le (re e q)
  have v6 : IntKind.i64.wrap ((n6 : Int) - (e.q : Int)) = (m6 : Int) := by rw [IntKind.wrap_i64]; omega
  have v7 : IntKind.i64.wrap ((m6 : Int) + ((re e q).q : Int)) = (k6 : Int) := by rw [IntKind.wrap_i64]; omega
  have FIN : Hid (∀ w', Li w' a (X ++ re e q :: Y) (.int .i64 (B : Int)) (.map g) (.int .i64 ((X ++ e :: Y).length : Int)) (.int .i64 (tot (X ++ e :: Y) : Int)) (.int .i64 (k6 : Int)) (.int .i64 (f : Int)) (.int .i64 (m : Int)) (.int .i64 (o : Int)) → Tb w' g c (X ++ e :: Y) → Ch w' a g B c (X ++ re e q :: Y) f m o) := by
    intro w' h1 h2
    have e1 : (X ++ re e q :: Y).length = (X ++ e :: Y).length := by simp
    have e2 : tot (X ++ re e q :: Y) = tot (X ++ e :: Y) := by simp [re, En.n]
    have e3 : pnd (X ++ re e q :: Y) = k6 := by rw [← hk6, ← hm6, ← hn6]; simp; omega
    have e4 : (X ++ re e q :: Y).map En.k = (X ++ e :: Y).map En.k := by simp [re]
    refine ⟨by rw [e1, e2, e3]; exact h1, ?_, ?_, ?_, h.bu, by rw [e2]; exact h.tt, by rw [e1]; exact h.cb, ?_⟩
    · rcases h2 with ⟨_, h2⟩ | ⟨b, D, h0, t1, t2⟩
      · simp at h2
      · exact .inr ⟨b, D, h0, t1, t2.congr fun k => fnd_re q k⟩
    · intro b hb hf
      refine h.gn b hb ?_
      unfold Fp at hf ⊢
      rw [List.map_append, List.map_cons] at hf ⊢
      exact hf
    · unfold Uq; rw [e4]; exact h.uq
    · intro x hx
      simp only [List.mem_append, List.mem_cons] at hx
      rcases hx with hx | rfl | hx
      · exact h.pm x (by simp [hx])
      · exact hq2
      · exact h.pm x (by simp [hx])
  have e0 : IntKind.i64.wrap ((e.p : Int) + by_) = (q : Int) := by rw [hq]; exact wrap_small _ (by omega) (by omega)
  have z1 : ¬ (q : Int) < 0 := by omega
  have z2 : ¬ 65535 < (q : Int) := by omega
  have z3 : decide (65535 < (q : Int)) = false := decide_eq_false z2
  have LI := h.li
  rw [hn6] at LI
  have TB := h.tb
  have al := h.li.lt a (fp_a _ _)
  obtain ⟨p0, p1, p2, _, _⟩ := pl_c P1
  have c6 := LI.cs.2.2.2.2.2.2.1
  have HL := hid LI
  have HT := hid TB
  have HP := hid P1
  clear h LI TB hq hq2 hfe hn6 hm6 hk6 hpl htt hbu heq hrq s1 hk
  obtain ⟨t4, ht4⟩ : ∃ t, ((X ++ e :: Y).length : Int) = t := ⟨_, rfl⟩
  obtain ⟨t5, ht5⟩ : ∃ t, (tot (X ++ e :: Y) : Int) = t := ⟨_, rfl⟩
  rw [ht4, ht5] at HL FIN
  clear ht4 ht5
  go_enter Try.func43, Try.ntmps43
  go_upto_region 7 with (go_at_call 31; refine i1.mono ?_; rintro r w9 ⟨rfl, hw9⟩; replace hw9 := hw9.symm; subst hw9)
  go_cut [] (fun w1 => Hid (Li w1 a (X ++ e :: Y) (.int .i64 (B : Int)) (.map g) (.int .i64 t4) (.int .i64 t5) (.int .i64 (m6 : Int)) (.int .i64 (f : Int)) (.int .i64 (m : Int)) (.int .i64 (o : Int))) ∧ Hid (pl w1 e (ls none X) (hd Y none)) ∧ Hid (Keep (Fg a g (X ++ e :: Y)) w w1) ∧ Hid (Tb w1 g c (X ++ e :: Y)))
  case first =>
    go_region_with (go_at_call 32; refine (i3 _).mono ?_; rintro r w4 ⟨rfl, b4⟩; have L4 := (show Li _ a (X ++ e :: Y) (.int .i64 (B : Int)) (.map g) (.int .i64 t4) (.int .i64 t5) (.int .i64 (n6 : Int)) (.int .i64 (f : Int)) (.int .i64 (m : Int)) (.int .i64 (o : Int)) from HL.out.drew).below b4; have g5 := L4.fz 6; have y5 := L4.cs.2.2.2.2.2.2.1)
    all_goals go_wp2_with fail
    all_goals go_meet
    all_goals exact ⟨L4.s6 _, pl_set (pl_below (pl_drew HP.out) b4) ea _ _, keep_set (keep_trans (keep_drew (keep_refl _ _)) (keep_below b4)) (.inl (fp_a _ _)) _ _, tb_set L4 (tb_below (show Tb w.drew g c (X ++ e :: Y) from HT.out) b4) _ _⟩
  case rest =>
    obtain ⟨L1, P2, K1, T1⟩ := hcut
    clear c6 p0 p1 p2 HL HP HT
    have L2 := L1.out.sp q
    have P3 := pl_re P2.out q
    have f2 := pl_f P2.out 2
    have y2 := (pl_c P2.out).2.2.1
    have K2 : Hid (Keep (Fg a g (X ++ e :: Y)) w (wc.setCell ⟨e.b, 2, none⟩ (.int .i64 (q : Int)))) := keep_set K1.out (.inl (fp_b (by simp))) _ _
    have T2 : Hid (Tb (wc.setCell ⟨e.b, 2, none⟩ (.int .i64 (q : Int))) g c (X ++ e :: Y)) := by
      rcases T1.out with t | ⟨b, D, h0, h1, h2⟩
      · exact .inl t
      · exact .inr ⟨b, D, h0, h1.setCell (fun x => L1.out.gne h1 e.b (fp_b (by simp)) x.symm) _, h2⟩
    go_upto_region 9 with fail
    generalize wc.setCell ⟨e.b, 2, none⟩ (.int .i64 (q : Int)) = w2 at *
    have c6 := L2.cs.2.2.2.2.2.2.1
    obtain ⟨p0, p1, p2, _, _⟩ := pl_c P3
    have L2 := hid L2
    change w2.cell? ⟨e.b, 0, none⟩ = some (.string ⟨e.k.toArray⟩) at p0
    change w2.cell? ⟨e.b, 1, none⟩ = some (.string ⟨e.v.toArray⟩) at p1
    change w2.cell? ⟨e.b, 2, none⟩ = some (.int .i64 (q : Int)) at p2
    clear P3 f2 y2 L1 P2 K1 T1
    go_cut [] (fun w5 => Hid (Pq w a g B c X Y e f m o q w5))
    case first =>
      go_region_with (go_at_call 32; refine (i4 _).mono ?_; rintro r w4 ⟨rfl, b4⟩; have L4 := (show Li _ a (X ++ re e q :: Y) (.int .i64 (B : Int)) (.map g) (.int .i64 t4) (.int .i64 t5) (.int .i64 (m6 : Int)) (.int .i64 (f : Int)) (.int .i64 (m : Int)) (.int .i64 (o : Int)) from L2.out.drew).below b4; have g5 := L4.fz 6; have y5 := L4.cs.2.2.2.2.2.2.1)
      all_goals go_wp2_with fail
      all_goals go_meet
      all_goals exact ⟨FIN.out _ (L4.s6 _) (tb_set L4 (tb_below (show Tb w2.drew g c (X ++ e :: Y) from T2.out) b4) _ _), keep_set (keep_trans (keep_drew K2.out) (keep_below b4)) (.inl (fp_a _ _)) _ _⟩
    case rest =>
      have HQ := hcut
      go_wp2
      go_ret
      exact ⟨rfl, HQ.out⟩
end Kc
end Go.Proofs.Ytkamjpjmdibfgaa
