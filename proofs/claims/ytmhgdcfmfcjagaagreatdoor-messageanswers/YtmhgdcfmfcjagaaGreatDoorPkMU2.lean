import Derived.Test.YtmhgdcfmfcjagaaGreatDoorPkMU1
import Derived.Test.YtmhgdcfmfcjagaaGreatDoorPkMV4
import Derived.Test.YtmhgdcfmfcjagaaGreatDoorPkMT3
namespace Go.Proofs.YtmhgdcfmfcjagaaGreatDoor
open Go.RowKit Cod
namespace Msg
theorem Part.of_putT (c : Nat) (k : Int) : (rpArr (tak c) Part.zero (.slice none 0 0) (.slice none 0 0) (.slice none 0 0) Part.zero (.slice none 0 0) (.slice none 0 0) (.slice none 0 0)).setIfInBounds 9 (.int .i64 k) = rpArr (tak c) Part.zero (.slice none 0 0) (.slice none 0 0) (.slice none 0 0) (Part.of k) (.slice none 0 0) (.slice none 0 0) (.slice none 0 0) := rfl
set_option maxRecDepth 100000 in
set_option maxHeartbeats 2000000 in
theorem isDoneT_any {w : World} {B b c d : Nat} {s : TS} (h : Ua w B b c d ((Part.zero, []), s) (.slice none 0 0) (.slice none 0 0) (.slice none 0 0)) (least : Int) :
    Calls Tryz.prog 98 #[.pointer (some ⟨d, 0, none⟩), .int .i64 least] w fun e w' => e = .returned (.bool (isDn ((tMark least 8 s).1 : Int) least)) ∧ UPost w B b c d ((Part.of ((tMark least 8 s).1 : Int), []), (tMark least 8 s).2) w' := by
  have c0 : w.cell? ⟨d, 0, none⟩ = some (tak c) := by rw [cell_of_row _ _ _ _ _ _ h.row]; rfl
  have c4 : w.cell? ⟨d, 1, none⟩ = some (.int .i64 0) := by rw [cell_of_row _ _ _ _ _ _ h.row]; rfl
  have i1 := takeMark_any 0 least 8 w.drew h.tk.drew
  rw [tak] at c0
  have mm := m_taking_mark ⟨c, 0, none⟩
  have HQ := hid h
  generalize (tMark least 8 s).2 = s2 at *
  generalize (tMark least 8 s).1 = n at *
  have F : Hid (∀ w2, Tk w2 b c s2 → Keep (BC b c) w w2 → UPost w B b c d ((Part.of (n : Int), []), s2) (w2.setCell ⟨d, 9, none⟩ (.int .i64 (n : Int))) ∧ w2.cell? ⟨d, 0, none⟩ = some (tak c) ∧ w2.cell? ⟨d, 1, none⟩ = some (.int .i64 0) ∧ w2.cell? ⟨d, 9, none⟩ = some (.int .i64 0) ∧ w2.frozen? ⟨d, 9, none⟩ = false) := fun w2 ht hk => by
    have hrow := HQ.out.row2 hk
    refine ⟨HQ.out.put hk ((Part.of (n : Int), []), s2) ht 9 _ _ _ _ (Part.of_putT c (n : Int)) ⟨nilT _, Nw.nil _ _⟩ ⟨nilT _, Nw.nil _ _⟩ (.inl ⟨rfl, rfl⟩) rfl (RpO.nil _ _ _ rfl rfl rfl), by rw [cell_of_row _ _ _ _ _ _ hrow]; rfl, by rw [cell_of_row _ _ _ _ _ _ hrow]; rfl, by rw [cell_of_row _ _ _ _ _ _ hrow]; rfl, frozen_of_row _ _ _ _ _ hrow⟩
  clear h
  rw [isDn]
  cases hw : wi (n : Int) least 8 with
  | false =>
    rw [hw] at i1
    rw [Bool.false_and]
    clear hw
    go_enter Tryz.func98, Tryz.ntmps98
    go_wp2
    go_region_held3 (fun w' => w'.cell? ⟨d, 0, none⟩ = some (.iface 127 (.pointer (some ⟨c, 0, none⟩))) ∧ w'.cell? ⟨d, 1, none⟩ = some (.int .i64 0)) (first | exact ⟨c0, c4⟩ | exact S2) (first | (go_at_call 176; (with_reducible refine i1.mono ?_); rintro e w2 ⟨rfl, ht, hk⟩; obtain ⟨f1, f2, f3, f4, f5⟩ := F.out w2 ht (Keep.drew' hk); rw [tak] at f2; have S2 := And.intro f2 f3; have HG := hid f1; clear ht hk f1 f2 f3))
    go_wp2
    go_ret
    exact ⟨rfl, HG.out⟩
  | true =>
    rw [hw] at i1
    rw [Bool.true_and]
    clear hw
    by_cases h0 : n = 0
    · subst h0
      rw [decide_eq_true (show ((0 : Nat) : Int) = 0 from rfl)]
      go_enter Tryz.func98, Tryz.ntmps98
      go_wp2
      go_region_held3 (fun w' => w'.cell? ⟨d, 0, none⟩ = some (.iface 127 (.pointer (some ⟨c, 0, none⟩))) ∧ w'.cell? ⟨d, 1, none⟩ = some (.int .i64 0)) (first | exact ⟨c0, c4⟩ | exact S2) (first | (go_at_call 176; (with_reducible refine i1.mono ?_); rintro e w2 ⟨rfl, ht, hk⟩; obtain ⟨f1, f2, f3, f4, f5⟩ := F.out w2 ht (Keep.drew' hk); rw [tak] at f2; have S2 := And.intro f2 f3; have HG := hid f1; clear ht hk f1 f2 f3))
      go_wp2
      go_ret
      exact ⟨rfl, HG.out⟩
    · have hb : ((n : Int) == 0) = false := by simp; omega
      rw [decide_eq_false (by omega)]
      go_enter Tryz.func98, Tryz.ntmps98
      go_wp2
      go_region_held3 (fun w' => w'.cell? ⟨d, 0, none⟩ = some (.iface 127 (.pointer (some ⟨c, 0, none⟩))) ∧ w'.cell? ⟨d, 1, none⟩ = some (.int .i64 0)) (first | exact ⟨c0, c4⟩ | exact S2) (first | (go_at_call 176; (with_reducible refine i1.mono ?_); rintro e w2 ⟨rfl, ht, hk⟩; obtain ⟨f1, f2, f3, f4, f5⟩ := F.out w2 ht (Keep.drew' hk); rw [tak] at f2; have S2 := And.intro f2 f3; have HG := hid f1; clear ht hk f1 f2 f3))
      go_wp2
      go_ret
      exact ⟨rfl, HG.out⟩
theorem least_posU {K : Nat} (h : 1 ≤ K) : leastOf (K : Int) = 0 := if_neg (by omega)
theorem Ua.tk' {w w2 : World} {B b c d : Nat} {p : PR} {th te tp : Value} (h : Ua w B b c d p th te tp) (hk : Keep (BC b c) w w2) {s : TS} (ht : Tk w2 b c s) : Ua w2 B b c d (p.1, s) th te tp :=
  ⟨ht, h.row2 hk, h.db, h.dc, h.hb, h.hc, h.hd, (h.o1 hk).1, (h.o1 hk).2, (h.o2 hk).1, (h.o2 hk).2, h.o3 hk, h.sn, h.o4 hk⟩
theorem Ua.below {w w2 : World} {B b c d : Nat} {p : PR} {th te tp : Value} (h : Ua w B b c d p th te tp) (hb : Below w.heap.size w w2) : Ua w2 B b c d p th te tp :=
  h.tk' (Keep.ofBelow hb) (h.tk.below hb)
theorem UPost.step {w w1 w2 : World} {B b c d : Nat} {p : PR} (k : Keep (DSet b c d) w w1) (h : UPost w1 B b c d p w2) : UPost w B b c d p w2 := by
  obtain ⟨th, te, tp, h1, h2⟩ := h
  exact ⟨th, te, tp, h1, k.trans h2 fun _ _ e => e⟩
def UC (B b c d : Nat) (da : TS → List Part × TS) (g : Fr) : Prop :=
  ∀ (w : World) (p : PR) (th te tp : Value), Ua w B b c d p th te tp → B ≤ w.heap.size →
    Calls Tryz.prog (rnum g) #[.pointer (some ⟨d, 0, none⟩)] w fun e w' => e = .returned (.tuple #[]) ∧ UPost w B b c d (tFr da g p) w'
theorem uc_six {B b c d : Nat} {da : TS → List Part × TS} (g : Fr) (hg : g ≠ .parts) : UC B b c d da g := fun w p th te tp h hB => by
  cases g with
  | size => exact u_size h hB da
  | a => exact u_a h hB da
  | over => exact u_over h hB da
  | root => exact u_root h hB da
  | hashes => exact u_hashes h hB da
  | parts => exact absurd rfl hg
  | entries => exact u_entries h hB da
theorem tFrs_snoc (da : TS → List Part × TS) (fs : List Fr) (k : Nat) (hk : k < fs.length) (p : PR) : tFrs da (fs.take (k + 1)) p = tFr da fs[k] (tFrs da (fs.take k) p) := by
  rw [tFrs, List.take_add_one, List.getElem?_eq_getElem hk, List.foldl_append]; rfl
structure Tq (w4 w' : World) (B b c d : Nat) (u : Value) (k : Nat) (fs : List Fr) (p : PR) (da : TS → List Part × TS) : Prop where
  q : UPost w4 B b c d (tFrs da (fs.take k) p) w'
  own : Own w' B u (fs.map rv)
  sz : B ≤ w'.heap.size
theorem Tq.next {w4 w' w3 : World} {B b c d : Nat} {u : Value} {k : Nat} {fs : List Fr} {p : PR} {da : TS → List Part × TS} (h : Tq w4 w' B b c d u k fs p da) (hk : k < fs.length) (hb : b < B) (hc : c < B) (hd : d < B)
    (q : UPost w' B b c d (tFr da fs[k] (tFrs da (fs.take k) p)) w3) : Tq w4 w3 B b c d u (k + 1) fs p da := by
  obtain ⟨t1, t2, t3, h1, h2⟩ := h.q
  have q0 := q
  obtain ⟨u1, u2, u3, g1, g2⟩ := q
  refine ⟨?_, h.own.keep g2 fun g hg e => ?_, Nat.le_trans h.sz g2.size⟩
  · rw [tFrs_snoc da fs k hk]; exact UPost.step h2 q0
  · have := h.own.ge g hg
    rcases e with e | e | e <;> omega
set_option maxRecDepth 100000 in
set_option maxHeartbeats 4000000 in
theorem payU_no {w : World} {B b c d : Nat} {s : TS} (h : Ua w B b c d ((Part.zero, []), s) (.slice none 0 0) (.slice none 0 0) (.slice none 0 0)) (K : Nat) (hw : wi ((tMark (K : Int) (K : Int) s).1 : Int) (K : Int) (K : Int) = false) :
    Calls Tryz.prog 74 #[.pointer (some ⟨d, 0, none⟩), .int .i64 (K : Int)] w fun e w' => e = .returned (.tuple #[]) ∧ UPost w B b c d (tReply K s) w' := by
  have c0 : w.cell? ⟨d, 0, none⟩ = some (tak c) := by rw [cell_of_row _ _ _ _ _ _ h.row]; rfl
  rw [tak] at c0
  have mm := m_taking_mark ⟨c, 0, none⟩
  have i1 := takeMark_any (K : Int) (K : Int) (K : Int) w h.tk
  rw [hw] at i1
  have HQ := hid h
  have hT : tReply K s = ((Part.zero, []), (tMark (K : Int) (K : Int) s).2) := by rw [tReply, if_neg (by rw [hw]; exact Bool.false_ne_true)]
  rw [hT]
  clear h hw hT
  generalize tMark (K : Int) (K : Int) s = q at *
  go_enter Tryz.func74, Tryz.ntmps74
  go_wp2_with (go_at_call 176; refine i1.mono ?_; rintro e w2 ⟨rfl, ht, hk⟩; have HT := hid ht; have HK := hid hk; clear ht hk)
  refine bodyPost_ret (results_none rfl _ _ _) rfl ?_
  exact ⟨rfl, _, _, _, HQ.out.tk' HK.out HT.out, bc_d HK.out⟩
set_option maxRecDepth 100000 in
set_option maxHeartbeats 4000000 in
theorem payU_not {w : World} {B b c d : Nat} {s : TS} (h : Ua w B b c d ((Part.zero, []), s) (.slice none 0 0) (.slice none 0 0) (.slice none 0 0)) (K : Nat) (hw : wi ((tMark (K : Int) (K : Int) s).1 : Int) (K : Int) (K : Int) = true) (hn : Hid (isDn ((tMark (leastOf (K : Int)) 8 (tMark (K : Int) (K : Int) s).2).1 : Int) (leastOf (K : Int)) = false)) :
    Calls Tryz.prog 74 #[.pointer (some ⟨d, 0, none⟩), .int .i64 (K : Int)] w fun e w' => e = .returned (.tuple #[]) ∧ UPost w B b c d (tReply K s) w' := by
  have c0 : w.cell? ⟨d, 0, none⟩ = some (tak c) := by rw [cell_of_row _ _ _ _ _ _ h.row]; rfl
  rw [tak] at c0
  have mm := m_taking_mark ⟨c, 0, none⟩
  have i1 := takeMark_any (K : Int) (K : Int) (K : Int) w h.tk
  rw [hw] at i1
  have HQ := hid h
  have hT : tReply K s = ((Part.of ((tMark (leastOf (K : Int)) 8 (tMark (K : Int) (K : Int) s).2).1 : Int), []), (tMark (leastOf (K : Int)) 8 (tMark (K : Int) (K : Int) s).2).2) := by
    rw [tReply, if_pos hw, tTail, if_neg (by rw [hn.out]; exact Bool.false_ne_true)]
  rw [hT]
  clear h hw hT
  generalize (tMark (K : Int) (K : Int) s).1 = q1 at *
  generalize (tMark (K : Int) (K : Int) s).2 = q2 at *
  by_cases hK0 : K = 0
  · subst hK0
    rw [show leastOf ((0 : Nat) : Int) = 1 from rfl] at hn ⊢
    go_enter Tryz.func74, Tryz.ntmps74
    go_wp2_with (first
      | (go_at_call 176; refine i1.mono ?_; rintro e w2 ⟨rfl, ht, hk⟩; have i2 := isDoneT_any (HQ.out.tk' hk ht) 1; rw [hn.out] at i2; have HK := hid hk; clear ht hk)
      | (go_at_call 98; refine i2.mono ?_; rintro e w3 ⟨rfl, p⟩; have P := hid (UPost.step (bc_d HK.out) p); clear p))
    refine bodyPost_ret (results_none rfl _ _ _) rfl ?_
    exact ⟨rfl, P.out⟩
  · have hb : ((K : Int) == 0) = false := by simp; omega
    rw [least_posU (by omega)] at hn ⊢
    go_enter Tryz.func74, Tryz.ntmps74
    go_wp2_with (first
      | (go_at_call 176; refine i1.mono ?_; rintro e w2 ⟨rfl, ht, hk⟩; have i2 := isDoneT_any (HQ.out.tk' hk ht) 0; rw [hn.out] at i2; have HK := hid hk; clear ht hk)
      | (go_at_call 98; refine i2.mono ?_; rintro e w3 ⟨rfl, p⟩; have P := hid (UPost.step (bc_d HK.out) p); clear p))
    refine bodyPost_ret (results_none rfl _ _ _) rfl ?_
    exact ⟨rfl, P.out⟩
set_option maxRecDepth 100000 in
set_option maxHeartbeats 4000000 in
theorem payU_done {w : World} {B b c d : Nat} {s : TS} (h : Ua w B b c d ((Part.zero, []), s) (.slice none 0 0) (.slice none 0 0) (.slice none 0 0)) (hB : B ≤ w.heap.size) (K : Nat) (hK2 : K ≤ 12) (hw : wi ((tMark (K : Int) (K : Int) s).1 : Int) (K : Int) (K : Int) = true) (hn : Hid (isDn ((tMark (leastOf (K : Int)) 8 (tMark (K : Int) (K : Int) s).2).1 : Int) (leastOf (K : Int)) = true)) (hA : ∀ g ∈ rflds K, UC B b c d tParts g) :
    Calls Tryz.prog 74 #[.pointer (some ⟨d, 0, none⟩), .int .i64 (K : Int)] w fun e w' => e = .returned (.tuple #[]) ∧ UPost w B b c d (tReply K s) w' := by
  have c0 : w.cell? ⟨d, 0, none⟩ = some (tak c) := by rw [cell_of_row _ _ _ _ _ _ h.row]; rfl
  rw [tak] at c0
  have mm := m_taking_mark ⟨c, 0, none⟩
  have i1 := takeMark_any (K : Int) (K : Int) (K : Int) w h.tk
  rw [hw] at i1
  have HQ := hid h
  have hT : tReply K s = tFrs tParts (rflds K) ((Part.of 0, []), (tMark (leastOf (K : Int)) 8 (tMark (K : Int) (K : Int) s).2).2) := by
    rw [tReply, if_pos hw, tTail, if_pos hn.out]
  rw [hT]
  have hK1 : 1 ≤ K := by
    rcases Nat.eq_zero_or_pos K with e | e
    · subst e
      have h2 := hn.out
      rw [show leastOf ((0 : Nat) : Int) = 1 from rfl, isDn, Bool.and_eq_true, decide_eq_true_eq, wi_iff] at h2
      omega
    · exact e
  rw [least_posU hK1] at hn ⊢
  have hst : ((tMark 0 8 (tMark (K : Int) (K : Int) s).2).1 : Int) = 0 := by
    have h2 := hn.out
    rw [isDn, Bool.and_eq_true, decide_eq_true_eq] at h2
    exact h2.2
  generalize (tMark (K : Int) (K : Int) s).1 = q1 at *
  generalize (tMark (K : Int) (K : Int) s).2 = q2 at *
  obtain ⟨q3, hq3⟩ : ∃ q3, Hid ((tMark 0 8 q2).2 = q3) := ⟨_, rfl⟩
  rw [hq3.out]
  have HST := hid hst
  have hl4 := rflds_len K
  obtain ⟨fs, hfs⟩ : ∃ fs, Hid (rflds K = fs) := ⟨_, rfl⟩
  rw [hfs.out] at hA hl4 ⊢
  have HA := hid hA
  have HB := hid hB
  have hbB := h.hb
  have hcB := h.hc
  have hdB := h.hd
  have hb : ((K : Int) == 0) = false := by simp; omega
  clear h hw hT hst hA hB
  go_enter Tryz.func74, Tryz.ntmps74
  go_wp2_with (first
    | (go_at_call 176; refine i1.mono ?_; rintro e w2 ⟨rfl, ht, hk⟩; have i2 := isDoneT_any (HQ.out.tk' hk ht) 0; rw [hn.out, HST.out, hq3.out] at i2; have HK := hid hk; clear ht hk)
    | (go_at_call 98; refine i2.mono ?_; rintro e w3 ⟨rfl, p⟩; have P := hid (UPost.step (bc_d HK.out) p); have i3 := replyFields_any K hK1 hK2 w3; unfold RsPost at i3; rw [hfs.out] at i3; clear p)
    | (go_at_call 99; fail))
  go_at_call 99
  refine i3.mono ?_
  rintro e w4 ⟨u, rfl, ho, hb3⟩
  obtain ⟨th, te, tp, q1', q2'⟩ := P.out
  have hs3 : B ≤ w3.heap.size := Nat.le_trans HB.out q2'.size
  have F0 : Hid (Tq w4 w4 B b c d u 0 fs ((Part.of 0, []), q3) tParts) := ⟨⟨th, te, tp, q1'.below hb3, Keep.refl _ _⟩, ho.mono hs3, Nat.le_trans hs3 hb3.size⟩
  have K4 : Hid (Keep (DSet b c d) w w4) := q2'.trans (T := fun _ => False) (Keep.ofBelow hb3) (fun _ _ e => e.elim)
  obtain ⟨pa, pc, hu⟩ := ho.shape
  rw [List.length_map] at hu
  subst hu
  clear q1' q2' ho hb3 i1 i2 i3 c0 P HK
  go_wp2
  go_loopw [33] (fun i w' => ∃ k : Nat, k ≤ fs.length ∧ i = .int .i64 k ∧ Hid (Tq w4 w' B b c d (.slice pa fs.length pc) k fs ((Part.of 0, []), q3) tParts)) (fun i _ => fs.length - (intOf i).toNat)
  case atStart => exact ⟨0, by omega, rfl, F0⟩
  case round =>
    obtain ⟨k, hk, rfl, hF⟩ := hrel
    by_cases hlt : k < fs.length
    · have hlt' : (k : Int) < (fs.length : Int) := by omega
      obtain ⟨g, q, hu, hc⟩ := own_cell hF.out.own (k := k) (y := rv fs[k]) (by rw [List.getElem?_map, List.getElem?_eq_getElem hlt]; rfl)
      injection hu with hu1 hu2 hu3
      subst hu1
      clear hu2 hu3
      obtain ⟨th', te', tp', q1, q2⟩ := hF.out.q
      have iF := HA.out fs[k] (List.getElem_mem hlt) wr _ th' te' tp' q1 hF.out.sz
      have N := hid (fun p => Tq.next (w3 := p) hF.out hlt hbB hcB hdB)
      rw [rv] at hc
      clear q1 q2
      generalize fs[k] = gg at *
      cases gg with
      | size =>
        rw [show rnum .size = 117 from rfl] at hc iF
        go_wp2_with (go_at_call 117; refine iF.mono ?_; rintro e w5 ⟨rfl, p⟩; have N1 := hid (N.out _ p); clear p)
        exact ⟨⟨k + 1, by omega, by go_num, N1⟩, by simp [intOf]; omega⟩
      | a =>
        rw [show rnum .a = 118 from rfl] at hc iF
        go_wp2_with (go_at_call 118; refine iF.mono ?_; rintro e w5 ⟨rfl, p⟩; have N1 := hid (N.out _ p); clear p)
        exact ⟨⟨k + 1, by omega, by go_num, N1⟩, by simp [intOf]; omega⟩
      | over =>
        rw [show rnum .over = 119 from rfl] at hc iF
        go_wp2_with (go_at_call 119; refine iF.mono ?_; rintro e w5 ⟨rfl, p⟩; have N1 := hid (N.out _ p); clear p)
        exact ⟨⟨k + 1, by omega, by go_num, N1⟩, by simp [intOf]; omega⟩
      | root =>
        rw [show rnum .root = 121 from rfl] at hc iF
        go_wp2_with (go_at_call 121; refine iF.mono ?_; rintro e w5 ⟨rfl, p⟩; have N1 := hid (N.out _ p); clear p)
        exact ⟨⟨k + 1, by omega, by go_num, N1⟩, by simp [intOf]; omega⟩
      | hashes =>
        rw [show rnum .hashes = 123 from rfl] at hc iF
        go_wp2_with (go_at_call 123; refine iF.mono ?_; rintro e w5 ⟨rfl, p⟩; have N1 := hid (N.out _ p); clear p)
        exact ⟨⟨k + 1, by omega, by go_num, N1⟩, by simp [intOf]; omega⟩
      | parts =>
        rw [show rnum .parts = 120 from rfl] at hc iF
        go_wp2_with (go_at_call 120; refine iF.mono ?_; rintro e w5 ⟨rfl, p⟩; have N1 := hid (N.out _ p); clear p)
        exact ⟨⟨k + 1, by omega, by go_num, N1⟩, by simp [intOf]; omega⟩
      | entries =>
        rw [show rnum .entries = 122 from rfl] at hc iF
        go_wp2_with (go_at_call 122; refine iF.mono ?_; rintro e w5 ⟨rfl, p⟩; have N1 := hid (N.out _ p); clear p)
        exact ⟨⟨k + 1, by omega, by go_num, N1⟩, by simp [intOf]; omega⟩
    · obtain rfl : k = fs.length := by omega
      go_wp2
      go_end0
      refine ⟨rfl, ?_⟩
      have q1 := hF.out.q
      rw [List.take_length] at q1
      exact UPost.step K4.out q1
theorem payU_any {w : World} {B b c d : Nat} {s : TS} (h : Ua w B b c d ((Part.zero, []), s) (.slice none 0 0) (.slice none 0 0) (.slice none 0 0)) (hB : B ≤ w.heap.size) (K : Nat) (hK2 : K ≤ 12) (hA : ∀ g ∈ rflds K, UC B b c d tParts g) :
    Calls Tryz.prog 74 #[.pointer (some ⟨d, 0, none⟩), .int .i64 (K : Int)] w fun e w' => e = .returned (.tuple #[]) ∧ UPost w B b c d (tReply K s) w' := by
  cases hw : wi ((tMark (K : Int) (K : Int) s).1 : Int) (K : Int) (K : Int) with
  | false => exact payU_no h K hw
  | true =>
    cases hn : isDn ((tMark (leastOf (K : Int)) 8 (tMark (K : Int) (K : Int) s).2).1 : Int) (leastOf (K : Int)) with
    | false => exact payU_not h K hw hn
    | true => exact payU_done h hB K hK2 hw hn hA
end Msg
end Go.Proofs.YtmhgdcfmfcjagaaGreatDoor

namespace Go.Proofs.YtmhgdcfmfcjagaaGreatDoor
open Go.RowKit Cod
namespace Msg
theorem Ua.cells {w : World} {B b c d : Nat} {p : PR} {th te tp : Value} (h : Ua w B b c d p th te tp) : w.cell? ⟨d, 0, none⟩ = some (.iface 127 (.pointer (some ⟨c, 0, none⟩))) ∧ w.cell? ⟨d, 1, none⟩ = some (.int .i64 0) ∧ w.cell? ⟨d, 2, none⟩ = some (.int .i64 0) ∧ w.cell? ⟨d, 3, none⟩ = some (.int .i64 0) ∧ w.cell? ⟨d, 4, none⟩ = some (.int .i64 0) ∧ w.cell? ⟨d, 5, none⟩ = some (.string ⟨#[]⟩) ∧ w.cell? ⟨d, 6, none⟩ = some (.slice none 0 0) ∧ w.cell? ⟨d, 7, none⟩ = some (.slice none 0 0) ∧ w.cell? ⟨d, 8, none⟩ = some (.slice none 0 0) := by
  refine ⟨?_, ?_, ?_, ?_, ?_, ?_, ?_, ?_, ?_⟩ <;> (rw [cell_of_row _ _ _ _ _ _ h.row]; rfl)
set_option maxRecDepth 100000 in
set_option maxHeartbeats 4000000 in
theorem partT_not {w : World} {B b c d : Nat} {s : TS} (h : Ua w B b c d ((Part.zero, []), s) (.slice none 0 0) (.slice none 0 0) (.slice none 0 0)) (hn : isDn ((tMark 0 8 s).1 : Int) 0 = false) :
    Calls Tryz.prog 162 #[.pointer (some ⟨d, 0, none⟩)] w fun e w' => e = .returned (.tuple #[]) ∧ UPost w B b c d (tTail 0 tForm s) w' := by
  have hT : tTail 0 tForm s = ((Part.of ((tMark 0 8 s).1 : Int), []), (tMark 0 8 s).2) := by rw [tTail, if_neg (by rw [hn]; exact Bool.false_ne_true)]
  have i2 := isDoneT_any h 0
  rw [hn] at i2
  rw [hT]
  clear h hn hT
  generalize (tMark 0 8 s).1 = n at *
  generalize (tMark 0 8 s).2 = q at *
  go_enter Tryz.func162, Tryz.ntmps162
  go_wp2_with (go_at_call 98; refine i2.mono ?_; rintro e w3 ⟨rfl, p⟩; have P := hid p; clear p)
  refine bodyPost_ret (results_none rfl _ _ _) rfl ?_
  exact ⟨rfl, P.out⟩
set_option maxRecDepth 100000 in
set_option maxHeartbeats 4000000 in
theorem partT_bad {w : World} {B b c d : Nat} {s : TS} (h : Ua w B b c d ((Part.zero, []), s) (.slice none 0 0) (.slice none 0 0) (.slice none 0 0)) (hB : B ≤ w.heap.size) (hn : isDn ((tMark 0 8 s).1 : Int) 0 = true) (hw : wi ((tMark 0 1 (tMark 0 8 s).2).1 : Int) 0 1 = false) :
    Calls Tryz.prog 162 #[.pointer (some ⟨d, 0, none⟩)] w fun e w' => e = .returned (.tuple #[]) ∧ UPost w B b c d (tTail 0 tForm s) w' := by
  have hT : tTail 0 tForm s = tForm (tMark 0 8 s).2 := by rw [tTail, if_pos hn]
  have hst : ((tMark 0 8 s).1 : Int) = 0 := by
    rw [isDn, Bool.and_eq_true, decide_eq_true_eq] at hn
    exact hn.2
  have i2 := isDoneT_any h 0
  rw [hn, hst] at i2
  rw [hT]
  generalize (tMark 0 8 s).2 = q at *
  have hF : tForm q = ((Part.of 0, []), (tMark 0 1 q).2) := by rw [tForm, if_neg (by rw [hw]; exact Bool.false_ne_true)]
  rw [hF]
  clear hF
  obtain ⟨r, hq2⟩ : ∃ r, Hid (tMark 0 1 q = r) := ⟨_, rfl⟩
  rw [hq2.out] at hw ⊢
  have mm := m_taking_mark ⟨c, 0, none⟩
  have HB := hid hB
  clear h hn hT hst hB
  go_enter Tryz.func162, Tryz.ntmps162
  go_wp2_with (go_at_call 98; fail)
  go_at_call 98
  refine i2.mono ?_
  rintro e w3 ⟨rfl, th, te, tp, g1, g2⟩
  have S1 := g1.cells
  have i3 := formOf_any Part.zero none none none 0 0 0 0 0 0 w3.drew
  rw [show fm Part.zero = 0 from rfl] at i3
  simp only [Part.zero] at i3
  have G1 := hid g1
  have G2 := hid g2
  clear g1 g2 i2
  go_wp2
  go_region_held3 (fun w' => w'.cell? ⟨d, 0, none⟩ = some (.iface 127 (.pointer (some ⟨c, 0, none⟩))) ∧ w'.cell? ⟨d, 1, none⟩ = some (.int .i64 0) ∧ w'.cell? ⟨d, 2, none⟩ = some (.int .i64 0) ∧ w'.cell? ⟨d, 3, none⟩ = some (.int .i64 0) ∧ w'.cell? ⟨d, 4, none⟩ = some (.int .i64 0) ∧ w'.cell? ⟨d, 5, none⟩ = some (.string ⟨#[]⟩) ∧ w'.cell? ⟨d, 6, none⟩ = some (.slice none 0 0) ∧ w'.cell? ⟨d, 7, none⟩ = some (.slice none 0 0) ∧ w'.cell? ⟨d, 8, none⟩ = some (.slice none 0 0)) (first | exact S1 | exact S2 | exact S3) (first
    | (go_at_call 170; (with_reducible refine i3.mono ?_); rintro e w4 ⟨rfl, h4⟩; have h4' : Below w3.heap.size w3 w4 := ((Below.refl _ w3).drew).trans h4; have g4 := G1.out.below h4'; have S2 := g4.cells; have i4 := takeMark_any 0 0 1 w4 g4.tk; rw [hq2.out, hw] at i4; have G4 := hid g4; have H4 := hid h4'; clear g4 h4 h4')
    | (go_at_call 176; (with_reducible refine i4.mono ?_); rintro e w5 ⟨rfl, ht, hk⟩; have g5 := G4.out.tk' hk ht; have S3 := g5.cells; have K5 := hid ((Keep.ofBelow H4.out : Keep (DSet b c d) w3 w4).trans (bc_d hk) (fun _ _ e => e)); have G5 := hid g5; clear g5 ht hk))
  go_wp2
  go_end0
  exact ⟨rfl, UPost.step G2.out ⟨_, _, _, G5.out, K5.out⟩⟩
set_option maxRecDepth 100000 in
set_option maxHeartbeats 4000000 in
theorem partT_hashes {w : World} {B b c d : Nat} {s : TS} (h : Ua w B b c d ((Part.zero, []), s) (.slice none 0 0) (.slice none 0 0) (.slice none 0 0)) (hB : B ≤ w.heap.size) (hn : isDn ((tMark 0 8 s).1 : Int) 0 = true) (hz : (tMark 0 1 (tMark 0 8 s).2).1 = 0) :
    Calls Tryz.prog 162 #[.pointer (some ⟨d, 0, none⟩)] w fun e w' => e = .returned (.tuple #[]) ∧ UPost w B b c d (tTail 0 tForm s) w' := by
  have hT : tTail 0 tForm s = tForm (tMark 0 8 s).2 := by rw [tTail, if_pos hn]
  have hst : ((tMark 0 8 s).1 : Int) = 0 := by
    rw [isDn, Bool.and_eq_true, decide_eq_true_eq] at hn
    exact hn.2
  have i2 := isDoneT_any h 0
  rw [hn, hst] at i2
  rw [hT]
  generalize (tMark 0 8 s).2 = q at *
  have hw : wi ((tMark 0 1 q).1 : Int) 0 1 = true := by rw [hz]; rfl
  have hF : tForm q = tFr (fun s => ([], s)) .hashes ((Part.of 0, []), (tMark 0 1 q).2) := by rw [tForm, if_pos hw, if_pos hz]; rfl
  rw [hF]
  clear hF hw
  obtain ⟨r, hq2⟩ : ∃ r, Hid (tMark 0 1 q = r) := ⟨_, rfl⟩
  rw [hq2.out] at hz ⊢
  have mm := m_taking_mark ⟨c, 0, none⟩
  have HB := hid hB
  clear h hn hT hst hB
  go_enter Tryz.func162, Tryz.ntmps162
  go_wp2_with (go_at_call 98; fail)
  go_at_call 98
  refine i2.mono ?_
  rintro e w3 ⟨rfl, th, te, tp, g1, g2⟩
  have S1 := g1.cells
  have i3 := formOf_any Part.zero none none none 0 0 0 0 0 0 w3.drew
  rw [show fm Part.zero = 0 from rfl] at i3
  simp only [Part.zero] at i3
  have G1 := hid g1
  have G2 := hid g2
  clear g1 g2 i2
  go_wp2
  go_region_held3 (fun w' => w'.cell? ⟨d, 0, none⟩ = some (.iface 127 (.pointer (some ⟨c, 0, none⟩))) ∧ w'.cell? ⟨d, 1, none⟩ = some (.int .i64 0) ∧ w'.cell? ⟨d, 2, none⟩ = some (.int .i64 0) ∧ w'.cell? ⟨d, 3, none⟩ = some (.int .i64 0) ∧ w'.cell? ⟨d, 4, none⟩ = some (.int .i64 0) ∧ w'.cell? ⟨d, 5, none⟩ = some (.string ⟨#[]⟩) ∧ w'.cell? ⟨d, 6, none⟩ = some (.slice none 0 0) ∧ w'.cell? ⟨d, 7, none⟩ = some (.slice none 0 0) ∧ w'.cell? ⟨d, 8, none⟩ = some (.slice none 0 0)) (first | exact S1 | exact S2 | exact S3) (first
    | (go_at_call 170; (with_reducible refine i3.mono ?_); rintro e w4 ⟨rfl, h4⟩; have h4' : Below w3.heap.size w3 w4 := ((Below.refl _ w3).drew).trans h4; have g4 := G1.out.below h4'; have S2 := g4.cells; have i4 := takeMark_any 0 0 1 w4 g4.tk; rw [hq2.out, hz, show wi ((0 : Nat) : Int) 0 1 = true from rfl] at i4; simp only [Int.ofNat_zero] at i4; have G4 := hid g4; have H4 := hid h4'; clear g4 h4 h4')
    | (go_at_call 176; (with_reducible refine i4.mono ?_); rintro e w5 ⟨rfl, ht, hk⟩; have g5 := G4.out.tk' hk ht; have S3 := g5.cells; have K5 := hid ((Keep.ofBelow H4.out : Keep (DSet b c d) w3 w4).trans (bc_d hk) (fun _ _ e => e)); have i5 := u_hashes g5 (Nat.le_trans HB.out (Nat.le_trans G2.out.size K5.out.size)) (fun s => ([], s)); clear g5 ht hk))
  go_wp2_with (go_at_call 123; refine i5.mono ?_; rintro e w6 ⟨rfl, p⟩; have P6 := hid p; clear p)
  go_end0
  exact ⟨rfl, UPost.step G2.out (UPost.step K5.out P6.out)⟩
set_option maxRecDepth 100000 in
set_option maxHeartbeats 4000000 in
theorem partT_root {w : World} {B b c d : Nat} {s : TS} (h : Ua w B b c d ((Part.zero, []), s) (.slice none 0 0) (.slice none 0 0) (.slice none 0 0)) (hB : B ≤ w.heap.size) (hn : isDn ((tMark 0 8 s).1 : Int) 0 = true) (hz : (tMark 0 1 (tMark 0 8 s).2).1 = 1) :
    Calls Tryz.prog 162 #[.pointer (some ⟨d, 0, none⟩)] w fun e w' => e = .returned (.tuple #[]) ∧ UPost w B b c d (tTail 0 tForm s) w' := by
  have hT : tTail 0 tForm s = tForm (tMark 0 8 s).2 := by rw [tTail, if_pos hn]
  have hst : ((tMark 0 8 s).1 : Int) = 0 := by
    rw [isDn, Bool.and_eq_true, decide_eq_true_eq] at hn
    exact hn.2
  have i2 := isDoneT_any h 0
  rw [hn, hst] at i2
  rw [hT]
  generalize (tMark 0 8 s).2 = q at *
  have hw : wi ((tMark 0 1 q).1 : Int) 0 1 = true := by rw [hz]; rfl
  have hF : tForm q = tFr (fun s => ([], s)) .root ((Part.of 0, []), (tMark 0 1 q).2) := by rw [tForm, if_pos hw, if_neg (by rw [hz]; exact Nat.one_ne_zero)]; rfl
  rw [hF]
  clear hF hw
  obtain ⟨r, hq2⟩ : ∃ r, Hid (tMark 0 1 q = r) := ⟨_, rfl⟩
  rw [hq2.out] at hz ⊢
  have mm := m_taking_mark ⟨c, 0, none⟩
  have HB := hid hB
  clear h hn hT hst hB
  go_enter Tryz.func162, Tryz.ntmps162
  go_wp2_with (go_at_call 98; fail)
  go_at_call 98
  refine i2.mono ?_
  rintro e w3 ⟨rfl, th, te, tp, g1, g2⟩
  have S1 := g1.cells
  have i3 := formOf_any Part.zero none none none 0 0 0 0 0 0 w3.drew
  rw [show fm Part.zero = 0 from rfl] at i3
  simp only [Part.zero] at i3
  have G1 := hid g1
  have G2 := hid g2
  clear g1 g2 i2
  go_wp2
  go_region_held3 (fun w' => w'.cell? ⟨d, 0, none⟩ = some (.iface 127 (.pointer (some ⟨c, 0, none⟩))) ∧ w'.cell? ⟨d, 1, none⟩ = some (.int .i64 0) ∧ w'.cell? ⟨d, 2, none⟩ = some (.int .i64 0) ∧ w'.cell? ⟨d, 3, none⟩ = some (.int .i64 0) ∧ w'.cell? ⟨d, 4, none⟩ = some (.int .i64 0) ∧ w'.cell? ⟨d, 5, none⟩ = some (.string ⟨#[]⟩) ∧ w'.cell? ⟨d, 6, none⟩ = some (.slice none 0 0) ∧ w'.cell? ⟨d, 7, none⟩ = some (.slice none 0 0) ∧ w'.cell? ⟨d, 8, none⟩ = some (.slice none 0 0)) (first | exact S1 | exact S2 | exact S3) (first
    | (go_at_call 170; (with_reducible refine i3.mono ?_); rintro e w4 ⟨rfl, h4⟩; have h4' : Below w3.heap.size w3 w4 := ((Below.refl _ w3).drew).trans h4; have g4 := G1.out.below h4'; have S2 := g4.cells; have i4 := takeMark_any 0 0 1 w4 g4.tk; rw [hq2.out, hz, show wi ((1 : Nat) : Int) 0 1 = true from rfl] at i4; have G4 := hid g4; have H4 := hid h4'; clear g4 h4 h4')
    | (go_at_call 176; (with_reducible refine i4.mono ?_); rintro e w5 ⟨rfl, ht, hk⟩; have g5 := G4.out.tk' hk ht; have S3 := g5.cells; have K5 := hid ((Keep.ofBelow H4.out : Keep (DSet b c d) w3 w4).trans (bc_d hk) (fun _ _ e => e)); have i5 := u_root g5 (Nat.le_trans HB.out (Nat.le_trans G2.out.size K5.out.size)) (fun s => ([], s)); clear g5 ht hk))
  go_wp2_with (go_at_call 121; refine i5.mono ?_; rintro e w6 ⟨rfl, p⟩; have P6 := hid p; clear p)
  go_end0
  exact ⟨rfl, UPost.step G2.out (UPost.step K5.out P6.out)⟩
theorem partT_any {w : World} {B b c d : Nat} {s : TS} (h : Ua w B b c d ((Part.zero, []), s) (.slice none 0 0) (.slice none 0 0) (.slice none 0 0)) (hB : B ≤ w.heap.size) :
    Calls Tryz.prog 162 #[.pointer (some ⟨d, 0, none⟩)] w fun e w' => e = .returned (.tuple #[]) ∧ UPost w B b c d (tTail 0 tForm s) w' := by
  cases hn : isDn ((tMark 0 8 s).1 : Int) 0 with
  | false => exact partT_not h hn
  | true =>
    cases hw : wi ((tMark 0 1 (tMark 0 8 s).2).1 : Int) 0 1 with
    | false => exact partT_bad h hB hn hw
    | true =>
      have := wi_iff.1 hw
      rcases Nat.lt_or_ge (tMark 0 1 (tMark 0 8 s).2).1 1 with e | e
      · exact partT_hashes h hB hn (by omega)
      · exact partT_root h hB hn (by omega)
end Msg
end Go.Proofs.YtmhgdcfmfcjagaaGreatDoor
