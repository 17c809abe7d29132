import Derived.Test.YtkamjpjmdibfgaaPkKP3
import Derived.Deep.CutRange
import Derived.Deep.DeepCutAuto
/- Layer 15, the program: leave -/
namespace Go.Proofs.Ytkamjpjmdibfgaa
open Go.RowKit Go.Maps
namespace Kc
theorem Li.lt {w : World} {a : Nat} {L : List En} {x0 x3 x4 x5 x6 x7 x8 x9 : Value} (h : Li w a L x0 x3 x4 x5 x6 x7 x8 x9) : ∀ k, Fp a L k → k < w.heap.size := by
  intro k hk
  rcases List.mem_cons.1 hk with rfl | hk
  · exact lt_of_heap h.row
  · obtain ⟨e, he, rfl⟩ := List.mem_map.1 hk
    exact seg_lt h.seg e he
theorem Li.kept {w w' : World} {a : Nat} {L : List En} {x0 x3 x4 x5 x6 x7 x8 x9 : Value} (h : Li w a L x0 x3 x4 x5 x6 x7 x8 x9) (hk : ∀ k, Fp a L k → w'.heap[k]? = w.heap[k]?) : Li w' a L x0 x3 x4 x5 x6 x7 x8 x9 :=
  ⟨(hk a (fp_a _ _)).trans h.row, seg_kept (fun e he => hk e.b (fp_b he)) h.seg, h.nb⟩
theorem Li.below {w w' : World} {a : Nat} {L : List En} {x0 x3 x4 x5 x6 x7 x8 x9 : Value} (h : Li w a L x0 x3 x4 x5 x6 x7 x8 x9) (hb : Below w.heap.size w w') : Li w' a L x0 x3 x4 x5 x6 x7 x8 x9 := h.kept fun k hk => hb.block k (h.lt k hk)
theorem Li.keep {S : Nat → Prop} {w w' : World} {a : Nat} {L : List En} {x0 x3 x4 x5 x6 x7 x8 x9 : Value} (h : Li w a L x0 x3 x4 x5 x6 x7 x8 x9) (hb : Keep S w w') (hS : ∀ k, Fp a L k → ¬ S k) : Li w' a L x0 x3 x4 x5 x6 x7 x8 x9 := h.kept fun k hk => hb.block k (h.lt k hk) (hS k hk)
theorem Li.na {w : World} {a : Nat} {L : List En} {x0 x3 x4 x5 x6 x7 x8 x9 : Value} (h : Li w a L x0 x3 x4 x5 x6 x7 x8 x9) : ∀ e ∈ L, e.b ≠ a := fun _ he c => (List.nodup_cons.1 h.nb).1 (c ▸ List.mem_map_of_mem he)
theorem Li.s4 {w : World} {a : Nat} {L : List En} {x0 x3 x4 x5 x6 x7 x8 x9 : Value} (h : Li w a L x0 x3 x4 x5 x6 x7 x8 x9) (v : Value) : Li (w.setCell ⟨a, 4, none⟩ v) a L x0 x3 v x5 x6 x7 x8 x9 :=
  ⟨by rw [heap_setCell_same _ _ _ _ _ _ h.row]; rfl, seg_set h.seg h.na _ _, h.nb⟩
theorem Li.s5 {w : World} {a : Nat} {L : List En} {x0 x3 x4 x5 x6 x7 x8 x9 : Value} (h : Li w a L x0 x3 x4 x5 x6 x7 x8 x9) (v : Value) : Li (w.setCell ⟨a, 5, none⟩ v) a L x0 x3 x4 v x6 x7 x8 x9 :=
  ⟨by rw [heap_setCell_same _ _ _ _ _ _ h.row]; rfl, seg_set h.seg h.na _ _, h.nb⟩
theorem Li.s6 {w : World} {a : Nat} {L : List En} {x0 x3 x4 x5 x6 x7 x8 x9 : Value} (h : Li w a L x0 x3 x4 x5 x6 x7 x8 x9) (v : Value) : Li (w.setCell ⟨a, 6, none⟩ v) a L x0 x3 x4 x5 v x7 x8 x9 :=
  ⟨by rw [heap_setCell_same _ _ _ _ _ _ h.row]; rfl, seg_set h.seg h.na _ _, h.nb⟩
theorem Li.s7 {w : World} {a : Nat} {L : List En} {x0 x3 x4 x5 x6 x7 x8 x9 : Value} (h : Li w a L x0 x3 x4 x5 x6 x7 x8 x9) (v : Value) : Li (w.setCell ⟨a, 7, none⟩ v) a L x0 x3 x4 x5 x6 v x8 x9 :=
  ⟨by rw [heap_setCell_same _ _ _ _ _ _ h.row]; rfl, seg_set h.seg h.na _ _, h.nb⟩
theorem Li.s8 {w : World} {a : Nat} {L : List En} {x0 x3 x4 x5 x6 x7 x8 x9 : Value} (h : Li w a L x0 x3 x4 x5 x6 x7 x8 x9) (v : Value) : Li (w.setCell ⟨a, 8, none⟩ v) a L x0 x3 x4 x5 x6 x7 v x9 :=
  ⟨by rw [heap_setCell_same _ _ _ _ _ _ h.row]; rfl, seg_set h.seg h.na _ _, h.nb⟩
theorem Li.s9 {w : World} {a : Nat} {L : List En} {x0 x3 x4 x5 x6 x7 x8 x9 : Value} (h : Li w a L x0 x3 x4 x5 x6 x7 x8 x9) (v : Value) : Li (w.setCell ⟨a, 9, none⟩ v) a L x0 x3 x4 x5 x6 x7 x8 v :=
  ⟨by rw [heap_setCell_same _ _ _ _ _ _ h.row]; rfl, seg_set h.seg h.na _ _, h.nb⟩
theorem pl_below {w w' : World} {e : En} {nw ol : Option Nat} (h : pl w e nw ol) (hb : Below w.heap.size w w') : pl w' e nw ol := (hb.block e.b (lt_of_heap h)).trans h
theorem Li.gne {w : World} {a : Nat} {L : List En} {x0 x3 x4 x5 x6 x7 x8 x9 : Value} (h : Li w a L x0 x3 x4 x5 x6 x7 x8 x9) {b c : Nat} {D : DataW Unit} (hm : w.ownsMap Try.prog 9 pR b c D) : ∀ k, Fp a L k → k ≠ b := by
  obtain ⟨es, cl, h2, _⟩ := hm
  intro k hk e
  subst e
  rcases List.mem_cons.1 hk with rfl | hk
  · have := h.row
    rw [h2] at this
    cases this
  · obtain ⟨e, he, rfl⟩ := List.mem_map.1 hk
    obtain ⟨X, Y, rfl⟩ := List.append_of_mem he
    have := (seg_append.1 h.seg).2.1
    unfold pl at this
    rw [h2] at this
    cases this
theorem own_below {w w' : World} {b c : Nat} {D : DataW Unit} (h : w.ownsMap Try.prog 9 pR b c D) (hb : Below w.heap.size w w') : w'.ownsMap Try.prog 9 pR b c D := by
  have hl := h.lt
  obtain ⟨es, cl, h1, h2⟩ := h
  exact ⟨es, cl, (hb.block b hl).trans h1, h2⟩
/-- what may change, with the map -/
def Fg (a : Nat) (g : Option Nat) (L : List En) (k : Nat) : Prop := Fp a L k ∨ g = some k
set_option maxRecDepth 100000 in
set_option maxHeartbeats 4000000 in
theorem leave_any {w : World} {a : Nat} {g : Option Nat} {B c : Nat} {X Y : List En} {e : En} {f m o : Nat} (h : Ch w a g B c (X ++ e :: Y) f m o) (hc : c ≤ 1000000000000) :
    Calls Try.prog 34 #[.pointer (some ⟨a, 0, none⟩), .pointer (some ⟨e.b, 0, none⟩)] w fun r w' => r = .returned (.tuple #[]) ∧ Ch w' a g B c (X ++ Y) f m o ∧ Keep (Fg a g (X ++ e :: Y)) w w' := by
  obtain ⟨b, D, rfl, t1, t2⟩ := h.tb.of (e := e) (by simp)
  have hu := h.uq
  have ht := h.tt
  have hb := h.bu
  have hn : e.n ≤ 16777216 := by have := h.tt; have := h.bu; simp at *; omega
  have hq : e.q ≤ pnd (X ++ e :: Y) := by simp; omega
  have hz : e.n ≤ tot (X ++ e :: Y) := by simp; omega
  have hkl : e.k.length ≤ 9223372036854775807 := by unfold En.n at hn; omega
  have i1 := take_any h.li
  have i3 := counts_any ⟨e.k.toArray⟩ ⟨e.v.toArray⟩ (e.p : Int) (by rw [sv_size]; unfold En.n at hn; omega) (by rw [sv_size]; unfold En.n at hn; omega)
  have i4 := pinned_any ⟨e.k.toArray⟩ ⟨e.v.toArray⟩ e.p (by rw [sv_size]; unfold En.n at hn; omega) (by rw [sv_size]; unfold En.n at hn; omega)
  have e3 : ((ByteArray.mk e.k.toArray).size + (ByteArray.mk e.v.toArray).size) = e.n := by rw [sv_size, sv_size]; rfl
  rw [e3] at i3 i4
  have e4 : (if e.p = 0 then 0 else e.n) = e.q := rfl
  rw [e4] at i4
  have hM : ∀ k, Fp a (X ++ Y) k → k ≠ b := fun k hk => h.li.gne t1 k (by
    unfold Fp at *
    simp at *
    rcases hk with h | h | h <;> simp [h])
  have hl : (((X ++ e :: Y).length : Nat) : Int) - 1 = (((X ++ Y).length : Nat) : Int) := by simp; omega
  have hl2 : ((tot (X ++ e :: Y) : Nat) : Int) - (e.n : Int) = ((tot (X ++ Y) : Nat) : Int) := by simp; omega
  have hl3 : ((pnd (X ++ e :: Y) : Nat) : Int) - (e.q : Int) = ((pnd (X ++ Y) : Nat) : Int) := by simp; omega
  obtain ⟨n4, hn4⟩ : ∃ n, (X ++ e :: Y).length = n := ⟨_, rfl⟩
  obtain ⟨n5, hn5⟩ : ∃ n, tot (X ++ e :: Y) = n := ⟨_, rfl⟩
  obtain ⟨n6, hn6⟩ : ∃ n, pnd (X ++ e :: Y) = n := ⟨_, rfl⟩
  obtain ⟨m4, hm4⟩ : ∃ n, (X ++ Y).length = n := ⟨_, rfl⟩
  obtain ⟨m5, hm5⟩ : ∃ n, tot (X ++ Y) = n := ⟨_, rfl⟩
  obtain ⟨m6, hm6⟩ : ∃ n, pnd (X ++ Y) = n := ⟨_, rfl⟩
  rw [hn4, hm4] at hl
  rw [hn5, hm5] at hl2
  rw [hn6, hm6] at hl3
  rw [hn4, hn5, hn6] at i1
  have hcb := h.cb
  have hcb' : f + m + o + m4 ≤ c := by omega
  have hpm : ∀ x ∈ X ++ Y, x.p ≤ 65535 := fun x hx => h.pm x (by simp at hx ⊢; rcases hx with h | h <;> simp [h])
  have hs5 : m5 ≤ B := by rw [hn5] at ht; omega
  have fin : ∀ w', Li w' a (X ++ Y) (.int .i64 (B : Int)) (.map (some b)) (.int .i64 (m4 : Int)) (.int .i64 (m5 : Int)) (.int .i64 (m6 : Int)) (.int .i64 (f : Int)) (.int .i64 (m : Int)) (.int .i64 (o : Int)) →
      (∃ D', w'.ownsMap Try.prog 9 pR b c D' ∧ Md D' (X ++ Y)) → Ch w' a (some b) B c (X ++ Y) f m o := by
    rintro w' h1 ⟨D', h2, h3⟩
    refine ⟨by rw [hm4, hm5, hm6]; exact h1, .inr ⟨b, D', rfl, h2, h3⟩, ?_, hu.split.1, hb, by rw [hm5]; exact hs5, by rw [hm4]; exact hcb', hpm⟩
    rintro b' hb' hf
    obtain rfl := Option.some.inj hb'
    exact hM _ hf rfl
  have FIN := hid fin
  have hx4 : Hid (m4 ≤ c) := by show m4 ≤ c; omega
  have hx5 : Hid (m5 ≤ 16777216) := by show m5 ≤ 16777216; omega
  have hx6 : Hid (m6 ≤ 16777216) := by show m6 ≤ 16777216; rw [← hm6]; have := pnd_le (X ++ Y); omega
  have HM := hid hM
  have T1' := hid t1
  have ba : b ≠ a := fun c => hM a (fp_a _ _) c.symm
  have al := h.li.lt a (fp_a _ _)
  have u1 : Hid ((n4 : Int) - 1 = (m4 : Int)) := hl
  have HKb : Hid (∀ k, Fp a (X ++ e :: Y) k → k ≠ b) := h.li.gne t1
  have u2 : Hid ((n5 : Int) - (e.n : Int) = (m5 : Int)) := hl2
  have u3 : Hid ((n6 : Int) - (e.q : Int) = (m6 : Int)) := hl3
  clear hl hl2 hl3 fin hM h ht hn hq hz hn4 hn5 hn6 hm4 hm5 hm6 hcb hcb' hpm hs5
  have E3 : Hid ((ByteArray.mk e.k.toArray).size + (ByteArray.mk e.v.toArray).size = e.n) := e3
  clear e3 e4
  go_enter Try.func34, Try.ntmps34
  go_wp2_with (go_at_call 37; refine i1.mono ?_; rintro r w1 ⟨rfl, L1, ⟨nw, ol, P1⟩, K1, z1⟩)
  have O1 : w1.ownsMap Try.prog 9 pR b c D := by
    obtain ⟨es, cl, h1, h2⟩ := T1'.out
    exact ⟨es, cl, (K1.block b (lt_of_heap h1) (fun hf => HKb.out b hf rfl)).trans h1, h2⟩
  obtain ⟨_, _, _, c3, c4, c5, c6, _⟩ := L1.cs
  obtain ⟨p0, p1, p2, _, _⟩ := pl_c P1
  have i2 := ttake_any (w := w1.drew) c3 O1 t2 hu hkl
  have L1' := hid L1.drew
  have P1' := hid P1
  have K1' := hid K1
  have z1' := hid z1
  have ab := Ne.symm ba
  have eb : e.b ≠ b := HKb.out e.b (fp_b (by simp))
  have ea : e.b ≠ a := by
    have := lt_of_heap P1
    exact fun c => by
      unfold pl at P1
      rw [c] at P1
      have := L1.row
      rw [P1] at this
      cases this
  clear L1 P1 K1 z1 i1 O1 t2 hu
  go_region_with (go_at_call 44; refine i2.mono ?_; rintro r w2 ⟨rfl, D2, M2⟩)
  have L2 : Li w2 a (X ++ Y) (.int .i64 (B : Int)) (.map (some b)) (.int .i64 (n4 : Int)) (.int .i64 (n5 : Int)) (.int .i64 (n6 : Int)) (.int .i64 (f : Int)) (.int .i64 (m : Int)) (.int .i64 (o : Int)) :=
    L1'.out.kept fun k hk => turned_block M2 (HM.out k hk) (L1'.out.lt k hk)
  have P2 : pl w2 e nw ol := (turned_block M2 eb (lt_of_heap P1'.out)).trans P1'.out
  have Z2 : w2.heap.size = w.heap.size := (turned_size M2).trans z1'.out
  have K2 : Hid (Keep (Fg a (some b) (X ++ e :: Y)) w w2) := keep_trans (keep_drew (keep_mono K1'.out fun k hk => .inl hk)) (keep_turned M2 (.inr rfl))
  have L3 := L2.s4 (.int .i64 (m4 : Int))
  have P3 := pl_set P2 ea 4 (.int .i64 (m4 : Int))
  obtain ⟨_, _, _, _, d4, _, _, _⟩ := L2.cs
  obtain ⟨_, _, _, _, _, d5, d6, _⟩ := L3.cs
  obtain ⟨q0, q1, q2, _, _⟩ := pl_c P3
  have f4 := L2.fz 4
  have f5 := L3.fz 5
  have f6 := L3.fz 6
  have HK3 : Hid (Keep (Fg a (some b) (X ++ e :: Y)) w (w2.setCell ⟨a, 4, none⟩ (.int .i64 (m4 : Int)))) := keep_set K2.out (.inl (fp_a _ _)) _ _
  have D3 : Hid (∃ D', (w2.setCell ⟨a, 4, none⟩ (.int .i64 (m4 : Int))).ownsMap Try.prog 9 pR b c D' ∧ Md D' (X ++ Y)) := by
    obtain ⟨D', x, y⟩ := D2
    exact ⟨D', x.setCell ba _, y⟩
  have HL3 := hid L3
  have HP3 := hid P3
  have v5 : IntKind.i64.wrap ((n5 : Int) - (e.n : Int)) = (m5 : Int) := by rw [u2.out]; exact wrap_small _ (by omega) (by have := hx5.out; omega)
  have v6 : IntKind.i64.wrap ((n6 : Int) - (e.q : Int)) = (m6 : Int) := by rw [u3.out]; exact wrap_small _ (by omega) (by have := hx6.out; omega)
  have v4 : IntKind.i64.wrap ((n4 : Int) - 1) = (m4 : Int) := by rw [u1.out]; exact wrap_small _ (by omega) (by have := hx4.out; omega)
  clear L1' P1' K1' z1' i2 c3 c4 c5 c6 p0 p1 p2 L2 P2 Z2 K2 D2 M2 L3 P3
  go_upto_region 3 with fail
  generalize w2.setCell ⟨a, 4, none⟩ (.int .i64 (m4 : Int)) = w3 at *
  go_cut [] (fun w5 => Hid (Li w5 a (X ++ Y) (.int .i64 (B : Int)) (.map (some b)) (.int .i64 (m4 : Int)) (.int .i64 (m5 : Int)) (.int .i64 (n6 : Int)) (.int .i64 (f : Int)) (.int .i64 (m : Int)) (.int .i64 (o : Int))) ∧ Hid (pl w5 e nw ol) ∧ Hid (Keep (Fg a (some b) (X ++ e :: Y)) w w5) ∧ Hid (∃ D', w5.ownsMap Try.prog 9 pR b c D' ∧ Md D' (X ++ Y)))
  case first =>
    go_region_with (go_at_call 33; refine (i3 _).mono ?_; rintro r w4 ⟨rfl, b4⟩; have L4 := (show Li _ a (X ++ Y) (.int .i64 (B : Int)) (.map (some b)) (.int .i64 (m4 : Int)) (.int .i64 (n5 : Int)) (.int .i64 (n6 : Int)) (.int .i64 (f : Int)) (.int .i64 (m : Int)) (.int .i64 (o : Int)) from HL3.out.drew).below b4; have g5 := L4.fz 5; obtain ⟨_, _, _, _, _, y5, y6, _⟩ := L4.cs)
    all_goals go_wp2_with fail
    all_goals go_meet
    all_goals exact ⟨L4.s5 _, pl_set (pl_below (pl_drew HP3.out) b4) ea _ _, keep_set (keep_trans (keep_drew HK3.out) (keep_below b4)) (.inl (fp_a _ _)) _ _, by
      obtain ⟨D', x, y⟩ := D3.out
      exact ⟨D', (own_below x.drew b4).setCell ba _, y⟩⟩
  case rest =>
    obtain ⟨HL5, HP5, HK5, D5⟩ := hcut
    clear d4 d5 d6 q0 q1 q2 f4 f5 f6 HL3 HP3 HK3 D3
    have d5 := HL5.out.cs.2.2.2.2.2.2.1
    have f5 := HL5.out.fz 6
    obtain ⟨q0, q1, q2, _, _⟩ := pl_c HP5.out
    go_upto_region 4 with fail
    go_region_with (go_at_call 32; refine (i4 _).mono ?_; rintro r w4 ⟨rfl, b4⟩; have L4 := (show Li _ a (X ++ Y) (.int .i64 (B : Int)) (.map (some b)) (.int .i64 (m4 : Int)) (.int .i64 (m5 : Int)) (.int .i64 (n6 : Int)) (.int .i64 (f : Int)) (.int .i64 (m : Int)) (.int .i64 (o : Int)) from HL5.out.drew).below b4; have g5 := L4.fz 6; obtain ⟨_, _, _, _, _, y5, y6, _⟩ := L4.cs)
    all_goals go_wp2_with fail
    all_goals go_end0
    all_goals exact ⟨rfl, FIN.out _ (L4.s6 _) (by
      obtain ⟨D', x, y⟩ := D5.out
      exact ⟨D', (own_below x.drew b4).setCell ba _, y⟩), keep_set (keep_trans (keep_drew HK5.out) (keep_below b4)) (.inl (fp_a _ _)) _ _⟩
end Kc
end Go.Proofs.Ytkamjpjmdibfgaa
