import Derived.Test.YtmhgdcfmfcjagaaGreatDoorPkMX2
import Derived.Deep.Slices
import Derived.Test.YtmhgdcfmfcjagaaGreatDoorPkMV4
import Derived.Test.YtmhgdcfmfcjagaaGreatDoorPkMW7
namespace Go.Proofs.YtmhgdcfmfcjagaaGreatDoor
open Go.RowKit Cod
namespace Msg
def Elq (w : World) (hi : Nat) (y : Addr) (j : Nat) (x : Part) : Prop :=
  ∃ uh ue up, w.cell? (y.add (j * 8)) = some (.int .i64 x.status) ∧ w.cell? (y.add (j * 8 + 1)) = some (.int .i64 x.size) ∧ w.cell? (y.add (j * 8 + 2)) = some (.int .i64 x.a) ∧ w.cell? (y.add (j * 8 + 3)) = some (.int .i64 x.b) ∧ w.cell? (y.add (j * 8 + 4)) = some (sv x.root) ∧
    w.cell? (y.add (j * 8 + 5)) = some uh ∧ w.cell? (y.add (j * 8 + 6)) = some ue ∧ w.cell? (y.add (j * 8 + 7)) = some up ∧ Lw hi uh ∧ Lw hi ue ∧ Slc w uh x.hs ∧ Slc w ue x.ent ∧ ∃ p q, up = .slice p x.n q
def Pq (w : World) (hi : Nat) (u : Value) (l : List Part) : Prop :=
  ∃ (a : Option Addr) (cap : Nat), u = .slice a l.length cap ∧ ∀ j x, l[j]? = some x → ∃ y : Addr, a = some y ∧ y.block < hi ∧ Elq w hi y j x
theorem Lw.mono {hi hi' : Nat} {u : Value} (h : Lw hi u) (hb : hi ≤ hi') : Lw hi' u := fun x n c e h0 => Nat.lt_of_lt_of_le (h x n c e h0) hb
theorem Elq.bl {w w' : World} {hi j : Nat} {y : Addr} {x : Part} (h : Elq w hi y j x) (hy : y.block < hi) (hb : Below hi w w') : Elq w' hi y j x := by
  obtain ⟨uh, ue, up, c0, c1, c2, c3, c4, c5, c6, c7, n1, n2, s1, s2, s3⟩ := h
  have key : ∀ (o : Nat) z, w.cell? (y.add o) = some z → w'.cell? (y.add o) = some z := fun o z e => (hb.cell (p := y.add o) (by rw [add_block]; exact hy)).trans e
  exact ⟨uh, ue, up, key _ _ c0, key _ _ c1, key _ _ c2, key _ _ c3, key _ _ c4, key _ _ c5, key _ _ c6, key _ _ c7, n1, n2, n1.slc s1 hb, n2.slc s2 hb, s3⟩
theorem Pq.bl {w w' : World} {hi : Nat} {u : Value} {l : List Part} (h : Pq w hi u l) (hb : Below hi w w') : Pq w' hi u l := by
  obtain ⟨a, cap, rfl, h⟩ := h
  refine ⟨a, cap, rfl, fun j x hx => ?_⟩
  obtain ⟨y, e, hy, he⟩ := h j x hx
  exact ⟨y, e, hy, he.bl hy hb⟩
theorem Pq.mono {w : World} {hi hi' : Nat} {u : Value} {l : List Part} (h : Pq w hi u l) (hb : hi ≤ hi') : Pq w hi' u l := by
  obtain ⟨a, cap, rfl, h⟩ := h
  refine ⟨a, cap, rfl, fun j x hx => ?_⟩
  obtain ⟨y, e, hy, uh, ue, up, c0, c1, c2, c3, c4, c5, c6, c7, n1, n2, s⟩ := h j x hx
  exact ⟨y, e, by omega, uh, ue, up, c0, c1, c2, c3, c4, c5, c6, c7, n1.mono hb, n2.mono hb, s⟩
end Msg
end Go.Proofs.YtmhgdcfmfcjagaaGreatDoor

namespace Go.Proofs.YtmhgdcfmfcjagaaGreatDoor
open Go.RowKit Cod
namespace Msg
theorem Pa.lo {w w2 : World} {base b c d : Nat} {v : Value} {s s' : LS} {x : Part} {uh ue up : Value} {t : Part} {th te tp : Value} (h : Pa w base b c d v s x uh ue up t th te tp) (hl : Lo w base b c v s' w2) : ∃ v', Pa w2 base b c d v' s' x uh ue up t th te tp ∧ Keep (QSet b c d v) w w2 ∧ From w v v' := by
  have hrow := h.row2 hl
  obtain ⟨v', h1, h2, h3⟩ := hl
  have hd := h.lt
  have hdn : ¬ LSet b c v' d := fun e => by
    rcases e with e | e | e
    · exact h.dn (.inl e)
    · exact h.dn (.inr (.inl e))
    · rcases h3 d e with g | g
      · exact h.dn (.inr (.inr g))
      · omega
  have bl := Lo.bl h.ly h2
  exact ⟨v', ⟨h1, hrow, hdn, h.ge, h.l1, h.l2, h.l1.slc h.s1 bl, h.l2.slc h.s2 bl, h.s3, h.t1, h.t2, h.t3⟩, h2.mono fun _ _ e => .inr e, h3⟩
theorem wi_self (K : Int) : wi K K K = true := decide_eq_true ⟨Int.le_refl _, Int.le_refl _⟩
theorem least_pos {K : Nat} (h : 1 ≤ K) : leastOf (K : Int) = 0 := if_neg (by omega)
set_option maxRecDepth 100000 in
set_option maxHeartbeats 4000000 in
theorem payR_not {w : World} {base b c d : Nat} {v : Value} {s : LS} {x : Part} {uh ue up : Value} (h : Pa w base b c d v s x uh ue up Part.zero (.slice none 0 0) (.slice none 0 0) (.slice none 0 0)) {m0 : Nat} (hm : Sm s m0) (h58 : m0 ≤ 58000000000000) (K : Nat) (hw : wi x.status (leastOf (K : Int)) 8 = true) (h0 : ¬ x.status = 0) :
    Calls Tryz.prog 74 #[.pointer (some ⟨d, 0, none⟩), .int .i64 (K : Int)] w fun e w' => e = .returned (.tuple #[]) ∧ GPost w base b c d v (lMark x.status (leastOf (K : Int)) 8 (lMark (K : Int) (K : Int) (K : Int) s)) x uh ue up (Part.of x.status) w' := by
  have c0 : w.cell? ⟨d, 0, none⟩ = some (lay c) := by rw [cell_of_row _ _ _ _ _ _ h.row]; rfl
  rw [lay] at c0
  have mm := m_laying_mark ⟨c, 0, none⟩
  have i1 := layMark_any (K : Int) (K : Int) (K : Int) w h.ly (hm.mono (by omega))
  rw [wi_self, if_pos rfl] at i1
  have HS0 : Hid (Sm (lMark (K : Int) (K : Int) (K : Int) s) (m0 + 1)) := (hm.lif _ _ _).mono (by simp)
  have HQ := hid h
  obtain ⟨s1, hs1⟩ : ∃ s1, Hid (lMark (K : Int) (K : Int) (K : Int) s = s1) := ⟨_, rfl⟩
  rw [hs1.out] at i1 HS0 ⊢
  have H0 := hid h0
  clear h hm h0
  by_cases hK0 : K = 0
  · subst hK0
    rw [show leastOf ((0 : Nat) : Int) = 1 from rfl] at hw ⊢
    go_enter Tryz.func74, Tryz.ntmps74
    go_wp2_with (first
      | (go_at_call 152; refine i1.mono ?_; rintro e w2 ⟨rfl, hl⟩; obtain ⟨v1, g1, g2, g3⟩ := HQ.out.lo hl; have i2 := isDoneL_yes g1 (HS0.out.mono (by omega)) 1 hw; rw [decide_eq_false H0.out] at i2; have G2 := hid g2; have G3 := hid g3; clear hl g1 g2 g3)
      | (go_at_call 98; refine i2.mono ?_; rintro e w3 ⟨rfl, p⟩; have P := hid (GPost.step G2.out G3.out p); clear p))
    refine bodyPost_ret (results_none rfl _ _ _) rfl ?_
    exact ⟨rfl, P.out⟩
  · have hb : ((K : Int) == 0) = false := by simp; omega
    rw [least_pos (by omega)] at hw ⊢
    go_enter Tryz.func74, Tryz.ntmps74
    go_wp2_with (first
      | (go_at_call 152; refine i1.mono ?_; rintro e w2 ⟨rfl, hl⟩; obtain ⟨v1, g1, g2, g3⟩ := HQ.out.lo hl; have i2 := isDoneL_yes g1 (HS0.out.mono (by omega)) 0 hw; rw [decide_eq_false H0.out] at i2; have G2 := hid g2; have G3 := hid g3; clear hl g1 g2 g3)
      | (go_at_call 98; refine i2.mono ?_; rintro e w3 ⟨rfl, p⟩; have P := hid (GPost.step G2.out G3.out p); clear p))
    refine bodyPost_ret (results_none rfl _ _ _) rfl ?_
    exact ⟨rfl, P.out⟩
set_option maxRecDepth 100000 in
set_option maxHeartbeats 4000000 in
theorem payR_done {w : World} {base b c d : Nat} {v : Value} {s : LS} {x : Part} {uh ue up : Value} (h : Pa w base b c d v s x uh ue up Part.zero (.slice none 0 0) (.slice none 0 0) (.slice none 0 0)) (hf : PFit x) {m0 K0 M : Nat} (hm : Sm s m0) (h58 : m0 ≤ 58000000000000) (K : Nat) (hK1 : 1 ≤ K) (hK2 : K ≤ 12) (h0 : x.status = 0)
    (hK0 : 68719476736 ≤ K0) (hM : m0 + 2 + ((rflds K).length - 1) * K0 ≤ M) (da : LS → LS) (hA : ∀ g ∈ rflds K, GC w M base b c d x uh ue up da g) (hd : .parts ∈ rflds K → ∀ s m, Sm s m → Sm (da s) (m + K0)) :
    Calls Tryz.prog 74 #[.pointer (some ⟨d, 0, none⟩), .int .i64 (K : Int)] w fun e w' => e = .returned (.tuple #[]) ∧ GPost w base b c d v (lFrs x da (rflds K) (lMark 0 0 8 (lMark (K : Int) (K : Int) (K : Int) s))) x uh ue up (setRs x (rflds K) (Part.of 0)) w' := by
  have c0 : w.cell? ⟨d, 0, none⟩ = some (lay c) := by rw [cell_of_row _ _ _ _ _ _ h.row]; rfl
  rw [lay] at c0
  have mm := m_laying_mark ⟨c, 0, none⟩
  have i1 := layMark_any (K : Int) (K : Int) (K : Int) w h.ly (hm.mono (by omega))
  rw [wi_self, if_pos rfl] at i1
  have HS0 : Hid (Sm (lMark (K : Int) (K : Int) (K : Int) s) (m0 + 1)) := (hm.lif _ _ _).mono (by simp)
  have HQ := hid h
  obtain ⟨s1, hs1⟩ : ∃ s1, Hid (lMark (K : Int) (K : Int) (K : Int) s = s1) := ⟨_, rfl⟩
  rw [hs1.out] at i1 HS0 ⊢
  have hw : wi x.status 0 8 = true := by rw [h0]; rfl
  have HS1 : Hid (Sm (lMark 0 0 8 s1) (m0 + 2)) := (HS0.out.lif _ _ _).mono (by simp)
  obtain ⟨s2, hs2⟩ : ∃ s2, Hid (lMark 0 0 8 s1 = s2) := ⟨_, rfl⟩
  rw [hs2.out] at HS1 ⊢
  have hl4 := rflds_len K
  obtain ⟨fs, hfs⟩ : ∃ fs, Hid (rflds K = fs) := ⟨_, rfl⟩
  rw [hfs.out] at hA hd hl4 hM ⊢
  have H0 := hid h0
  have HA := hid hA
  have HD := hid hd
  have HM := hid hM
  have HF := hid hf
  have hb : ((K : Int) == 0) = false := by simp; omega
  clear h hm h0 hA hd hM hf
  go_enter Tryz.func74, Tryz.ntmps74
  go_wp2_with (first
    | (go_at_call 152; refine i1.mono ?_; rintro e w2 ⟨rfl, hl⟩; obtain ⟨v1, g1, g2, g3⟩ := HQ.out.lo hl; have i2 := isDoneL_yes g1 (HS0.out.mono (by omega)) 0 hw; rw [decide_eq_true H0.out, H0.out, hs2.out] at i2; have G2 := hid g2; have G3 := hid g3; clear hl g1 g2 g3)
    | (go_at_call 98; refine i2.mono ?_; rintro e w3 ⟨rfl, p⟩; have P := hid (GPost.step G2.out G3.out p); have i3 := replyFields_any K hK1 hK2 w3; unfold RsPost at i3; rw [hfs.out] at i3; clear p)
    | (go_at_call 99; fail))
  go_at_call 99
  refine i3.mono ?_
  rintro e w4 ⟨u, rfl, ho, hb3⟩
  obtain ⟨v3, th, te, tp, q1, q2, q3⟩ := P.out
  have hQ4 := q1.below hb3
  have F0 : Hid (Gf w4 w4 base b c d u v3 0 fs s2 x uh ue up (Part.of 0) da) := ⟨⟨v3, th, te, tp, hQ4, Keep.refl _ _, From.refl _ _⟩, ho.mono (Nat.zero_le _), fun g hg => ⟨fun e => by have := (q1.in g e).2; have := ho.ge g hg; omega, ho.lt g hg⟩⟩
  have K4 : Hid (Keep (QSet b c d v) w w4) := q2.trans (T := fun _ => False) (Keep.ofBelow hb3) (fun _ _ e => e.elim)
  have B4 : Hid (Below base w w4) := HQ.out.bl K4.out
  have Q3 := hid q3
  have Q4 := hid hQ4
  obtain ⟨pa, pc, hu⟩ := ho.shape
  rw [List.length_map] at hu
  subst hu
  clear q1 q2 q3 hQ4 ho hb3 i1 i2 i3 c0 G2 G3 P
  go_wp2
  go_loopw [33] (fun i w' => ∃ k : Nat, k ≤ fs.length ∧ i = .int .i64 k ∧ Hid (Gf w4 w' base b c d (.slice pa fs.length pc) v3 k fs s2 x uh ue up (Part.of 0) da)) (fun i _ => fs.length - (intOf i).toNat)
  case atStart => exact ⟨0, by omega, rfl, F0⟩
  case round =>
    obtain ⟨k, hk, rfl, hF⟩ := hrel
    by_cases hlt : k < fs.length
    · have hlt' : (k : Int) < (fs.length : Int) := by omega
      obtain ⟨g, q, hu, hc⟩ := own_cell hF.out.own (k := k) (y := rv fs[k]) (by rw [List.getElem?_map, List.getElem?_eq_getElem hlt]; rfl)
      injection hu with hu1 hu2 hu3
      subst hu1
      clear hu2 hu3
      obtain ⟨v', th', te', tp', q1, q2, q3⟩ := hF.out.q
      have hS := sm_fr HF.out hK0 HD.out k _ _ HS1.out hk
      have iF := HA.out fs[k] (List.getElem_mem hlt) wr v' _ _ th' te' tp' (B4.out.trans (Q4.out.bl q2)) q1 (hS.mono (by have := HM.out; have : k * K0 ≤ (fs.length - 1) * K0 := Nat.mul_le_mul_right _ (by omega); omega))
      have N := hid (fun p => Gf.next (w3 := p) hF.out hlt q2 q3)
      rw [rv] at hc
      clear q1 q2 q3 hS
      generalize fs[k] = gg at *
      cases gg with
      | size =>
        rw [show rnum .size = 117 from rfl] at hc iF
        go_wp2_with (go_at_call 117; refine iF.mono ?_; rintro e w5 ⟨rfl, p⟩; have N1 := hid (N.out _ p); clear p)
        exact ⟨⟨k + 1, by omega, by go_num, N1⟩, by simp [intOf]; omega⟩
      | a =>
        rw [show rnum .a = 118 from rfl] at hc iF
        go_wp2_with (go_at_call 118; refine iF.mono ?_; rintro e w5 ⟨rfl, p⟩; have N1 := hid (N.out _ p); clear p)
        exact ⟨⟨k + 1, by omega, by go_num, N1⟩, by simp [intOf]; omega⟩
      | over =>
        rw [show rnum .over = 119 from rfl] at hc iF
        go_wp2_with (go_at_call 119; refine iF.mono ?_; rintro e w5 ⟨rfl, p⟩; have N1 := hid (N.out _ p); clear p)
        exact ⟨⟨k + 1, by omega, by go_num, N1⟩, by simp [intOf]; omega⟩
      | root =>
        rw [show rnum .root = 121 from rfl] at hc iF
        go_wp2_with (go_at_call 121; refine iF.mono ?_; rintro e w5 ⟨rfl, p⟩; have N1 := hid (N.out _ p); clear p)
        exact ⟨⟨k + 1, by omega, by go_num, N1⟩, by simp [intOf]; omega⟩
      | hashes =>
        rw [show rnum .hashes = 123 from rfl] at hc iF
        go_wp2_with (go_at_call 123; refine iF.mono ?_; rintro e w5 ⟨rfl, p⟩; have N1 := hid (N.out _ p); clear p)
        exact ⟨⟨k + 1, by omega, by go_num, N1⟩, by simp [intOf]; omega⟩
      | parts =>
        rw [show rnum .parts = 120 from rfl] at hc iF
        go_wp2_with (go_at_call 120; refine iF.mono ?_; rintro e w5 ⟨rfl, p⟩; have N1 := hid (N.out _ p); clear p)
        exact ⟨⟨k + 1, by omega, by go_num, N1⟩, by simp [intOf]; omega⟩
      | entries =>
        rw [show rnum .entries = 122 from rfl] at hc iF
        go_wp2_with (go_at_call 122; refine iF.mono ?_; rintro e w5 ⟨rfl, p⟩; have N1 := hid (N.out _ p); clear p)
        exact ⟨⟨k + 1, by omega, by go_num, N1⟩, by simp [intOf]; omega⟩
    · obtain rfl : k = fs.length := by omega
      go_wp2
      go_end0
      refine ⟨rfl, ?_⟩
      obtain ⟨v', th', te', tp', q1, q2, q3⟩ := hF.out.q
      rw [List.take_length] at q1
      exact GPost.step K4.out Q3.out ⟨v', th', te', tp', q1, q2, q3⟩
end Msg
end Go.Proofs.YtmhgdcfmfcjagaaGreatDoor

namespace Go.Proofs.YtmhgdcfmfcjagaaGreatDoor
open Go.RowKit Cod
namespace Msg
set_option maxRecDepth 100000 in
set_option maxHeartbeats 4000000 in
theorem partL_not {w : World} {base b c d : Nat} {v : Value} {s : LS} {x : Part} {uh ue up : Value} (h : Pa w base b c d v s x uh ue up Part.zero (.slice none 0 0) (.slice none 0 0) (.slice none 0 0)) (hm : Sm s 140600000000000) (hw : wi x.status 0 8 = true) (h0 : ¬ x.status = 0) :
    Calls Tryz.prog 162 #[.pointer (some ⟨d, 0, none⟩)] w fun e w' => e = .returned (.tuple #[]) ∧ GPost w base b c d v (lMark x.status 0 8 s) x uh ue up (Part.of x.status) w' := by
  have i2 := isDoneL_yes h hm 0 hw
  rw [decide_eq_false h0] at i2
  clear h hm hw h0
  go_enter Tryz.func162, Tryz.ntmps162
  go_wp2_with (go_at_call 98; refine i2.mono ?_; rintro e w3 ⟨rfl, p⟩; have P := hid p; clear p)
  refine bodyPost_ret (results_none rfl _ _ _) rfl ?_
  exact ⟨rfl, P.out⟩
theorem Pa.cells {w : World} {base b c d : Nat} {v : Value} {s : LS} {x : Part} {p1 p2 p3 : Option Addr} {q1 q2 q3 : Nat} {t : Part} {th te tp : Value} (h : Pa w base b c d v s x (.slice p1 x.hs.length q1) (.slice p2 x.ent.length q2) (.slice p3 x.n q3) t th te tp) : w.cell? ⟨d, 0, none⟩ = some (.iface 96 (.pointer (some ⟨c, 0, none⟩))) ∧ w.cell? ⟨d, 1, none⟩ = some (.int .i64 x.status) ∧ w.cell? ⟨d, 2, none⟩ = some (.int .i64 x.size) ∧ w.cell? ⟨d, 3, none⟩ = some (.int .i64 x.a) ∧ w.cell? ⟨d, 4, none⟩ = some (.int .i64 x.b) ∧ w.cell? ⟨d, 5, none⟩ = some (.string ⟨x.root.toArray⟩) ∧ w.cell? ⟨d, 6, none⟩ = some (.slice p1 x.hs.length q1) ∧ w.cell? ⟨d, 7, none⟩ = some (.slice p2 x.ent.length q2) ∧ w.cell? ⟨d, 8, none⟩ = some (.slice p3 x.n q3) := by
  refine ⟨?_, ?_, ?_, ?_, ?_, ?_, ?_, ?_, ?_⟩ <;> (rw [cell_of_row _ _ _ _ _ _ h.row]; rfl)
set_option maxRecDepth 100000 in
set_option maxHeartbeats 4000000 in
theorem partL_hashes {w : World} {base b c d : Nat} {v : Value} {s : LS} {x : Part} {uh ue up : Value} (h : Pa w base b c d v s x uh ue up Part.zero (.slice none 0 0) (.slice none 0 0) (.slice none 0 0)) (hf : PFit x) (hm : Sm s 140500000000000) (h0 : x.status = 0) (hfm : fm x = 0) :
    Calls Tryz.prog 162 #[.pointer (some ⟨d, 0, none⟩)] w fun e w' => e = .returned (.tuple #[]) ∧ GPost w base b c d v (lFr x id .hashes (lMark 0 0 1 (lMark 0 0 8 s))) x uh ue up (setR x .hashes (Part.of 0)) w' := by
  obtain ⟨p1, q1, rfl, _⟩ := id h.s1
  obtain ⟨p2, q2, rfl, _⟩ := id h.s2
  obtain ⟨p3, q3, rfl⟩ := id h.s3
  have i2 := isDoneL_yes h (hm.mono (by omega)) 0 (by rw [h0]; rfl)
  rw [decide_eq_true h0, h0] at i2
  have HS1 : Hid (Sm (lMark 0 0 8 s) 140500000000001) := (hm.lif _ _ _).mono (by simp)
  have HS2 : Hid (Sm (lMark 0 0 1 (lMark 0 0 8 s)) 140500000000002) := (HS1.out.lif _ _ _).mono (by simp)
  obtain ⟨s2, hs2⟩ : ∃ s2, Hid (lMark 0 0 8 s = s2) := ⟨_, rfl⟩
  rw [hs2.out] at i2 HS1 HS2 ⊢
  have mm := m_laying_mark ⟨c, 0, none⟩
  have HF := hid hf
  have HFM := hid hfm
  clear h hm h0 hf hfm
  go_enter Tryz.func162, Tryz.ntmps162
  go_wp2_with (go_at_call 98; fail)
  go_at_call 98
  refine i2.mono ?_
  rintro e w3 ⟨rfl, v3, th, te, tp, g1, g2, g3⟩
  have S1 := g1.cells
  have i3 := formOf_any x p1 p2 p3 x.hs.length x.ent.length x.n q1 q2 q3 w3.drew
  rw [HFM.out] at i3
  have G1 := hid g1
  have G2 := hid g2
  have G3 := hid g3
  clear g1 g2 g3 i2
  go_wp2
  go_region_held3 (fun w' => w'.cell? ⟨d, 0, none⟩ = some (.iface 96 (.pointer (some ⟨c, 0, none⟩))) ∧ w'.cell? ⟨d, 1, none⟩ = some (.int .i64 x.status) ∧ w'.cell? ⟨d, 2, none⟩ = some (.int .i64 x.size) ∧ w'.cell? ⟨d, 3, none⟩ = some (.int .i64 x.a) ∧ w'.cell? ⟨d, 4, none⟩ = some (.int .i64 x.b) ∧ w'.cell? ⟨d, 5, none⟩ = some (.string ⟨x.root.toArray⟩) ∧ w'.cell? ⟨d, 6, none⟩ = some (.slice p1 x.hs.length q1) ∧ w'.cell? ⟨d, 7, none⟩ = some (.slice p2 x.ent.length q2) ∧ w'.cell? ⟨d, 8, none⟩ = some (.slice p3 x.n q3)) (first | exact S1 | exact S2 | exact S3) (first
    | (go_at_call 170; (with_reducible refine i3.mono ?_); rintro e w4 ⟨rfl, h4⟩; have h4' : Below w3.heap.size w3 w4 := ((Below.refl _ w3).drew).trans h4; have g4 := G1.out.below h4'; have S2 := g4.cells; have i4 := layMark_any 0 0 1 w4 g4.ly (HS1.out.mono (by omega)); rw [show wi 0 0 1 = true from rfl, if_pos rfl] at i4; have G4 := hid g4; have H4 := hid h4'; clear g4 h4 h4')
    | (go_at_call 152; (with_reducible refine i4.mono ?_); rintro e w5 ⟨rfl, hl⟩; obtain ⟨v5, g5, k5, f5⟩ := G4.out.lo hl; have S3 := g5.cells; have i5 := g_hashes g5 HF.out (HS2.out.mono (by omega)) id; have K5 := hid k5; have F5 := hid f5; clear g5 k5 f5 hl))
  go_wp2_with (go_at_call 123; refine i5.mono ?_; rintro e w6 ⟨rfl, p⟩; have P6 := hid p; clear p)
  go_end0
  refine ⟨rfl, GPost.step G2.out G3.out (GPost.step (w1 := w4) (Keep.ofBelow H4.out) (From.refl _ _) (GPost.step K5.out F5.out P6.out))⟩
set_option maxRecDepth 100000 in
set_option maxHeartbeats 4000000 in
theorem partL_root {w : World} {base b c d : Nat} {v : Value} {s : LS} {x : Part} {uh ue up : Value} (h : Pa w base b c d v s x uh ue up Part.zero (.slice none 0 0) (.slice none 0 0) (.slice none 0 0)) (hf : PFit x) (hm : Sm s 140500000000000) (h0 : x.status = 0) (hfm : fm x = 1) :
    Calls Tryz.prog 162 #[.pointer (some ⟨d, 0, none⟩)] w fun e w' => e = .returned (.tuple #[]) ∧ GPost w base b c d v (lFr x id .root (lMark 1 0 1 (lMark 0 0 8 s))) x uh ue up (setR x .root (Part.of 0)) w' := by
  obtain ⟨p1, q1, rfl, _⟩ := id h.s1
  obtain ⟨p2, q2, rfl, _⟩ := id h.s2
  obtain ⟨p3, q3, rfl⟩ := id h.s3
  have i2 := isDoneL_yes h (hm.mono (by omega)) 0 (by rw [h0]; rfl)
  rw [decide_eq_true h0, h0] at i2
  have HS1 : Hid (Sm (lMark 0 0 8 s) 140500000000001) := (hm.lif _ _ _).mono (by simp)
  have HS2 : Hid (Sm (lMark 1 0 1 (lMark 0 0 8 s)) 140500000000002) := (HS1.out.lif _ _ _).mono (by simp)
  obtain ⟨s2, hs2⟩ : ∃ s2, Hid (lMark 0 0 8 s = s2) := ⟨_, rfl⟩
  rw [hs2.out] at i2 HS1 HS2 ⊢
  have mm := m_laying_mark ⟨c, 0, none⟩
  have HF := hid hf
  have HFM := hid hfm
  clear h hm h0 hf hfm
  go_enter Tryz.func162, Tryz.ntmps162
  go_wp2_with (go_at_call 98; fail)
  go_at_call 98
  refine i2.mono ?_
  rintro e w3 ⟨rfl, v3, th, te, tp, g1, g2, g3⟩
  have S1 := g1.cells
  have i3 := formOf_any x p1 p2 p3 x.hs.length x.ent.length x.n q1 q2 q3 w3.drew
  rw [HFM.out] at i3
  have G1 := hid g1
  have G2 := hid g2
  have G3 := hid g3
  clear g1 g2 g3 i2
  go_wp2
  go_region_held3 (fun w' => w'.cell? ⟨d, 0, none⟩ = some (.iface 96 (.pointer (some ⟨c, 0, none⟩))) ∧ w'.cell? ⟨d, 1, none⟩ = some (.int .i64 x.status) ∧ w'.cell? ⟨d, 2, none⟩ = some (.int .i64 x.size) ∧ w'.cell? ⟨d, 3, none⟩ = some (.int .i64 x.a) ∧ w'.cell? ⟨d, 4, none⟩ = some (.int .i64 x.b) ∧ w'.cell? ⟨d, 5, none⟩ = some (.string ⟨x.root.toArray⟩) ∧ w'.cell? ⟨d, 6, none⟩ = some (.slice p1 x.hs.length q1) ∧ w'.cell? ⟨d, 7, none⟩ = some (.slice p2 x.ent.length q2) ∧ w'.cell? ⟨d, 8, none⟩ = some (.slice p3 x.n q3)) (first | exact S1 | exact S2 | exact S3) (first
    | (go_at_call 170; (with_reducible refine i3.mono ?_); rintro e w4 ⟨rfl, h4⟩; have h4' : Below w3.heap.size w3 w4 := ((Below.refl _ w3).drew).trans h4; have g4 := G1.out.below h4'; have S2 := g4.cells; have i4 := layMark_any 1 0 1 w4 g4.ly (HS1.out.mono (by omega)); rw [show wi 1 0 1 = true from rfl, if_pos rfl] at i4; have G4 := hid g4; have H4 := hid h4'; clear g4 h4 h4')
    | (go_at_call 152; (with_reducible refine i4.mono ?_); rintro e w5 ⟨rfl, hl⟩; obtain ⟨v5, g5, k5, f5⟩ := G4.out.lo hl; have S3 := g5.cells; have i5 := g_root g5 HF.out (HS2.out.mono (by omega)) id; have K5 := hid k5; have F5 := hid f5; clear g5 k5 f5 hl))
  go_wp2_with (go_at_call 121; refine i5.mono ?_; rintro e w6 ⟨rfl, p⟩; have P6 := hid p; clear p)
  go_end0
  refine ⟨rfl, GPost.step G2.out G3.out (GPost.step (w1 := w4) (Keep.ofBelow H4.out) (From.refl _ _) (GPost.step K5.out F5.out P6.out))⟩
end Msg
end Go.Proofs.YtmhgdcfmfcjagaaGreatDoor
