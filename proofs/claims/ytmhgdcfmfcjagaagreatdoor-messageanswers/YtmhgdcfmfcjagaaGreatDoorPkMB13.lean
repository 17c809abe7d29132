import Derived.Test.YtmhgdcfmfcjagaaGreatDoorPkMB12
import Derived.Test.YtmhgdcfmfcjagaaGreatDoorPkMF13
import Derived.Test.YtmhgdcfmfcjagaaGreatDoorPkMF8
namespace Go.Proofs.YtmhgdcfmfcjagaaGreatDoor
open Go.RowKit Cod
namespace Msg
def rOkB (K : Nat) (p : List UInt8) : Bool := decide ((tReply K (⟨p, 0, 0⟩, false)).2.1.done = 0) && !(tReply K (⟨p, 0, 0⟩, false)).2.2
def rQ (k : Int) (s : List UInt8) : Part × List Part := if wi k 0 12 = true then (match rdText s 1048576 with
  | .bad _ => (Part.zero, [])
  | .good p _ => if rOkB k.toNat p = true then (tReply k.toNat (⟨p, 0, 0⟩, false)).1 else (Part.zero, [])) else (Part.zero, [])
def rR (k : Int) (s : List UInt8) : List UInt8 := if wi k 0 12 = true then (match rdText s 1048576 with
  | .bad _ => []
  | .good p r => if rOkB k.toNat p = true then r else []) else []
def rE (k : Int) (s : List UInt8) : Int := if wi k 0 12 = true then (match rdText s 1048576 with
  | .bad k => unfr k
  | .good p _ => if rOkB k.toNat p = true then 0 else 173) else 170
def DAny (k : Int) (s : List UInt8) (w : World) (e : Ending) (w' : World) : Prop :=
  Below w.heap.size w w' ∧ ∃ ul ue up, e = .returned (.tuple #[rpV (rQ k s).1 ul ue up, sv (rR k s), .int .i64 (rE k s)]) ∧ GotR w' w.heap.size (rQ k s).1 (rQ k s).2 ul ue up
theorem gotR_zero (w : World) (lo : Nat) : GotR w lo Part.zero [] (.slice none 0 0) (.slice none 0 0) (.slice none 0 0) :=
  ⟨nilT _, Nw.nil _ _, nilT _, Nw.nil _ _, .inl ⟨rfl, rfl⟩, rfl⟩
theorem dany_of {K : Nat} (hK : K ≤ 12) {s : List UInt8} {w : World} {e : Ending} {w' : World} (h : DPostR K s w e w') : DAny (K : Int) s w e w' := by
  obtain ⟨hb, h⟩ := h
  have hw : wi (K : Int) 0 12 = true := wi_iff.2 ⟨by omega, by omega⟩
  refine ⟨hb, ?_⟩
  unfold rQ rR rE
  simp only [if_pos hw, Int.toNat_natCast]
  cases hR : rdText s 1048576 with
  | bad k =>
    rw [hR] at h
    exact ⟨_, _, _, h, gotR_zero _ _⟩
  | good p r =>
    rw [hR] at h
    have h : DOkR (tReply K (⟨p, 0, 0⟩, false)) r w e w' := h
    unfold DOkR at h
    by_cases hd : rOkB K p = true
    · have hd' := hd
      unfold rOkB at hd'
      rw [if_pos hd'] at h
      simp only [if_pos hd]
      exact h
    · have hd' := hd
      unfold rOkB at hd'
      rw [if_neg hd'] at h
      simp only [if_neg hd]
      exact ⟨_, _, _, h, gotR_zero _ _⟩
theorem dany_none {k : Int} (hw : ¬ wi k 0 12 = true) {s : List UInt8} {w : World} {e : Ending} {w' : World} (h : e = .returned (.tuple #[rp0, sv [], .int .i64 170]) ∧ Below w.heap.size w w') : DAny k s w e w' := by
  refine ⟨h.2, ?_⟩
  unfold rQ rR rE
  simp only [if_neg hw]
  exact ⟨_, _, _, h.1, gotR_zero _ _⟩
theorem wi_nat {k : Int} (h : wi k 0 12 = true) : ∃ K : Nat, K ≤ 12 ∧ k = (K : Int) := by
  have h := wi_iff.1 h
  exact ⟨k.toNat, by omega, by omega⟩
theorem decR_doc (k : Int) (s : ByteArray) (w : World) (hs : s.size ≤ 4611686018427380000) : Calls Tryz.prog 23 #[.int .i64 k, .string s] w (DAny k s.data.toList w) := by
  by_cases hw : wi k 0 12 = true
  · obtain ⟨K, hK, rfl⟩ := wi_nat hw
    exact (rdecodeR17_any hK s w hs).mono fun _ _ h => dany_of hK h
  · exact (rdecodeR17_none k hw s w).mono fun _ _ h => dany_none hw h
theorem decR_own (k : Int) (s : ByteArray) (w : World) (T : Lay w) (hs : s.size ≤ maxLen) : Calls Tryz.prog 24 #[.int .i64 k, .string s] w (fun e w' => DAny k s.data.toList w e w' ∧ OwdR w w' e) := by
  by_cases hw : wi k 0 12 = true
  · obtain ⟨K, hK, rfl⟩ := wi_nat hw
    exact (decodeR_own K hK s w T hs).mono fun _ _ h => ⟨dany_of hK h.1, h.2⟩
  · refine (decodeR_kind k (by cases h : wi k 0 12 with | true => exact absurd h hw | false => rfl) s w).mono fun e w' h => ⟨dany_none hw h, ?_⟩
    rw [h.1]
    exact owdR_zero _ _ _ _
structure QRp (x : Part) (l : List Part) : Prop where
  few : FewR x
  n : x.n = l.length
  el : ∀ y ∈ l, FewR y ∧ y.n = 0
  len : l.length ≤ 65
theorem qrp_zero : QRp Part.zero [] := ⟨fewR_of 0, rfl, fun y hy => (by cases hy), by simp⟩
theorem qrp (k : Int) (s : List UInt8) : QRp (rQ k s).1 (rQ k s).2 := by
  unfold rQ
  by_cases hw : wi k 0 12 = true
  · obtain ⟨K, hK, rfl⟩ := wi_nat hw
    rw [if_pos hw, Int.toNat_natCast]
    cases hR : rdText s 1048576 with
    | bad k => exact qrp_zero
    | good p r =>
      simp only
      by_cases hd : rOkB K p = true
      · rw [if_pos hd]
        have e := (decR17_yes hR hd).2.1
        have q := dAllR_ok hK ((⟨p, 0, 0⟩ : RS).step (rdByte p))
        rw [e] at q
        exact ⟨q.few, q.n, fun y hy => ⟨(q.el y hy).1, (q.el y hy).2.1⟩, q.len⟩
      · rw [if_neg hd]; exact qrp_zero
  · rw [if_neg hw]; exact qrp_zero
theorem owdR_got {w w' : World} {x : Part} {ul ue ua r z : Value} (h : OwdR w w' (.returned (.tuple #[rpV x ul ue ua, r, z]))) : ∃ x' l', RpO w' w.heap.size (x', l') ul ue ua := by
  obtain ⟨x', l', ul', ue', ua', rest, er, e, ra⟩ := h
  simp only [rpV, Ending.returned.injEq, Value.tuple.injEq, Array.mk.injEq, List.cons.injEq, Value.agg.injEq, and_true] at e
  obtain ⟨⟨_, _, _, _, _, rfl, rfl, rfl⟩, _, _⟩ := e
  exact ⟨x', l', ra⟩
theorem ownR_m {w : World} {B : Nat} {v : Value} {cs : List Value} (h : Own w B v cs) : OwnM 1 w v cs.length cs := by
  rcases h with ⟨rfl, rfl⟩ | ⟨g, cap, e, h1, h2, h3, h4, h5, h6⟩
  · exact OwnM.nil 1 w
  · exact .inr ⟨g, cap, e, h2, h3, by rw [Nat.mul_one], h4, by rw [Nat.mul_one]; exact h5, h6⟩
theorem ownR_len {w w2 : World} {B : Nat} {v : Value} {cs : List Value} {l : List (List UInt8)} (h : Own w B v cs) (g : Slc w2 v l) : cs.length = l.length := by
  obtain ⟨a', c', e', _⟩ := g
  rcases h with ⟨rfl, rfl⟩ | ⟨g, cap, e, _⟩
  · injection e'
  · rw [e] at e'; injection e'
structure Kp (w : World) (lo hi : Nat) (x : Part) (l : List Part) (m : Ep) (E : List Ep) : Prop where
  mx : m.x = x
  s1 : Slc w m.h x.hs
  n1 : Nw lo hi m.h
  s2 : Slc w m.e x.ent
  n2 : Nw lo hi m.e
  psq : Ps w lo hi m.p l
  o1 : ∃ n cs, n ≤ 1000000 ∧ OwnM 1 w m.h n cs
  o2 : ∃ n cs, n ≤ 1000000 ∧ OwnM 1 w m.e n cs
  o3 : OwnM 8 w m.p E.length (epcs E)
  hE : E.length ≤ 65
  el : ∀ y ∈ E, (∃ n cs, n ≤ 1000000 ∧ OwnM 1 w y.h n cs) ∧ (∃ n cs, n ≤ 1000000 ∧ OwnM 1 w y.e n cs) ∧ y.p = .slice none 0 0
  inn : ∀ k, k ∈ bks (m.h :: m.e :: m.p :: eps E) → lo ≤ k ∧ k < hi
  nd : (bks (m.h :: m.e :: m.p :: eps E)).Nodup
theorem bkR_cons {v : Value} {vs : List Value} {k : Nat} : k ∈ bks (v :: vs) ↔ v.ownBlock = some k ∨ k ∈ bks vs := by
  rw [bks_cons, List.mem_append]
  refine or_congr ⟨fun h => ?_, fun h => mem_bks.2 ⟨v, List.mem_singleton.2 rfl, h⟩⟩ Iff.rfl
  obtain ⟨u, hu, hb⟩ := mem_bks.1 h
  rw [List.mem_singleton] at hu
  subst hu
  exact hb
theorem kp_of {w : World} {lo : Nat} {x x' : Part} {l l' : List Part} {ul ue ua : Value} (hq : QRp x l) (g : GotR w lo x l ul ue ua) (r : RpO w lo (x', l') ul ue ua) : ∃ E, Kp w lo w.heap.size x l ⟨x, ul, ue, ua⟩ E := by
  obtain ⟨E, h1, h2, h3, h4⟩ := r
  obtain ⟨g1, g2, g3, g4, g5, g6⟩ := g
  obtain ⟨pa, qa, ea⟩ := g5.shape
  obtain ⟨pb, qb, eb, _, _⟩ := h3.own.shape
  have hlen : E.length = l.length := by
    rw [ea] at eb
    injection eb with _ eb
    exact eb.symm
  refine ⟨E, rfl, g1, g2, g3, g4, g5, ⟨_, _, ?_, ownR_m h1⟩, ⟨_, _, ?_, ownR_m h2⟩, h3.own, by rw [hlen]; exact hq.len, fun y hy => ?_, fun k hk => ?_, h4⟩
  · rw [ownR_len h1 g1]; have := hq.few.hl; omega
  · rw [ownR_len h2 g3]; have := hq.few.el; omega
  · obtain ⟨f1, f2, f3⟩ := h3.el y hy
    obtain ⟨j, hj⟩ := List.getElem?_of_mem hy
    have hjl : j < l.length := by rw [← hlen]; exact (List.getElem?_eq_some_iff.1 hj).1
    have hx := List.getElem?_eq_getElem hjl
    have hw := hq.el _ (List.getElem_mem hjl)
    rcases g5 with ⟨_, e0⟩ | ⟨gb, cap, e5, _, _, _, e6⟩
    · rw [e0] at hjl; simp at hjl
    · obtain ⟨vh, ve, vp, _, _, _, _, _, c5, c6, _, _, _, t1, t2, _⟩ := e6 j _ hx
      have ho := h3.own
      rw [e5, ← hlen] at ho
      obtain ⟨gb', eg, hc⟩ := epcs_cells ho hj
      injection eg with eg
      injection eg with eg
      subst eg
      have d5 := hc 5 y.h (by omega) rfl
      have d6 := hc 6 y.e (by omega) rfl
      rw [c5] at d5
      rw [c6] at d6
      obtain rfl := Option.some.inj d5
      obtain rfl := Option.some.inj d6
      refine ⟨⟨_, _, ?_, ownR_m f1⟩, ⟨_, _, ?_, ownR_m f2⟩, f3⟩
      · rw [ownR_len f1 t1]; have := hw.1.hl; omega
      · rw [ownR_len f2 t2]; have := hw.1.el; omega
  · rcases bkR_cons.1 hk with hk | hk
    · exact ⟨h1.ge k hk, own_lt h1 k hk⟩
    · rcases bkR_cons.1 hk with hk | hk
      · exact ⟨h2.ge k hk, own_lt h2 k hk⟩
      · exact h3.in k hk
theorem Kp.keep {S : Nat → Prop} {w w' : World} {lo hi : Nat} {x : Part} {l : List Part} {m : Ep} {E : List Ep} (h : Kp w lo hi x l m E) (hb : Keep S w w') (hS : ∀ k, lo ≤ k → k < hi → ¬ S k) : Kp w' lo hi x l m E := by
  have hv : ∀ v, v ∈ (m.h :: m.e :: m.p :: eps E) → ∀ k, v.ownBlock = some k → ¬ S k := fun v hv k hk => hS k (h.inn k (mem_bks.2 ⟨v, hv, hk⟩)).1 (h.inn k (mem_bks.2 ⟨v, hv, hk⟩)).2
  refine ⟨h.mx, h.n1.slc h.s1 hb hS, h.n1, h.n2.slc h.s2 hb hS, h.n2, h.psq.keep hb hS, ?_, ?_, h.o3.keep hb (hv _ (by simp)), h.hE, fun y hy => ?_, h.inn, h.nd⟩
  · obtain ⟨n, cs, a, b⟩ := h.o1
    exact ⟨n, cs, a, b.keep hb (hv _ (by simp))⟩
  · obtain ⟨n, cs, a, b⟩ := h.o2
    exact ⟨n, cs, a, b.keep hb (hv _ (by simp))⟩
  · obtain ⟨⟨n, cs, a, b⟩, ⟨n', cs', a', b'⟩, c⟩ := h.el y hy
    exact ⟨⟨n, cs, a, b.keep hb (hv _ (by simp only [List.mem_cons]; exact .inr (.inr (.inr (mem_eps.2 ⟨y, hy, .inl rfl⟩)))))⟩, ⟨n', cs', a', b'.keep hb (hv _ (by simp only [List.mem_cons]; exact .inr (.inr (.inr (mem_eps.2 ⟨y, hy, .inr rfl⟩)))))⟩, c⟩
structure Ku where
  lo : Nat
  hi : Nat
  x : Part
  l : List Part
  m : Ep
  E : List Ep
structure Trp (w : World) (B : Nat) (T : List Ku) : Prop where
  el : ∀ t ∈ T, Kp w t.lo t.hi t.x t.l t.m t.E ∧ QRp t.x t.l ∧ B ≤ t.lo ∧ t.hi ≤ w.heap.size
  pw : T.Pairwise (fun a b => a.hi ≤ b.lo)
theorem Trp.nil (w : World) (B : Nat) : Trp w B [] := ⟨fun t ht => (by cases ht), List.Pairwise.nil⟩
theorem Trp.keep {S : Nat → Prop} {w w' : World} {B : Nat} {T : List Ku} (h : Trp w B T) (hb : Keep S w w') (hS : ∀ t ∈ T, ∀ k, t.lo ≤ k → k < t.hi → ¬ S k) : Trp w' B T :=
  ⟨fun t ht => ⟨(h.el t ht).1.keep hb (hS t ht), (h.el t ht).2.1, (h.el t ht).2.2.1, Nat.le_trans (h.el t ht).2.2.2 hb.size⟩, h.pw⟩
theorem Trp.below {w w' : World} {B : Nat} {T : List Ku} (h : Trp w B T) (hb : Below w.heap.size w w') : Trp w' B T :=
  h.keep (S := fun _ => False) (Keep.ofBelow hb) (fun _ _ _ _ _ e => e)
theorem Trp.push {w w' : World} {B : Nat} {T : List Ku} (h : Trp w B T) (hb : Below w.heap.size w w') (t : Ku) (ht : Kp w' t.lo t.hi t.x t.l t.m t.E) (hq : QRp t.x t.l) (h1 : w.heap.size ≤ t.lo) (h2 : t.hi ≤ w'.heap.size) (hB : B ≤ w.heap.size) : Trp w' B (T ++ [t]) := by
  have h' := h.below hb
  refine ⟨fun u hu => ?_, ?_⟩
  · rcases List.mem_append.1 hu with hu | hu
    · exact h'.el u hu
    · rw [List.mem_singleton.1 hu]; exact ⟨ht, hq, by omega, h2⟩
  · rw [List.pairwise_append]
    refine ⟨h.pw, List.pairwise_singleton _ _, fun a ha b hb' => ?_⟩
    rw [List.mem_singleton.1 hb']
    have := (h.el a ha).2.2.2
    omega
def g1 (t : Ku) : List Value := t.m.h :: t.m.e :: eps t.E
def g2 (t : Ku) : List Value := t.m.p :: t.E.map (·.p)
theorem eps_len (L : List Ep) : (eps L).length = 2 * L.length := by
  induction L with
  | nil => rfl
  | cons a L ih => simp [eps] at ih ⊢; omega
theorem g1_len {w : World} {t : Ku} (h : Kp w t.lo t.hi t.x t.l t.m t.E) : (g1 t).length ≤ 132 := by
  have := h.hE
  rw [g1, List.length_cons, List.length_cons, eps_len]; omega
theorem g2_len {w : World} {t : Ku} (h : Kp w t.lo t.hi t.x t.l t.m t.E) : (g2 t).length ≤ 132 := by
  have := h.hE
  rw [g2, List.length_cons, List.length_map]; omega
theorem Kp.apart {w : World} {t : Ku} (h : Kp w t.lo t.hi t.x t.l t.m t.E) :
    (bks (g1 t)).Nodup ∧ (bks (g2 t)).Nodup ∧ (∀ k, k ∈ bks (g1 t) → k ∉ bks (g2 t)) ∧ (∀ k, k ∈ bks (g1 t) → t.lo ≤ k ∧ k < t.hi) ∧ ∀ k, k ∈ bks (g2 t) → t.lo ≤ k ∧ k < t.hi := by
  have hn : ∀ k, k ∉ bks (t.E.map (·.p)) := fun k hk => by
    obtain ⟨v, hv, hb⟩ := mem_bks.1 hk
    obtain ⟨m, hm, rfl⟩ := List.mem_map.1 hv
    rw [(h.el m hm).2.2] at hb
    cases hb
  obtain ⟨a1, a2⟩ := nd_cons.1 h.nd
  obtain ⟨a3, a4⟩ := nd_cons.1 a1
  obtain ⟨a5, a6⟩ := nd_cons.1 a3
  have q2 : ∀ k, k ∈ bks (g2 t) → t.m.p.ownBlock = some k := fun k hk => by
    rcases bkR_cons.1 hk with hk | hk
    · exact hk
    · exact absurd hk (hn k)
  refine ⟨nd_cons.2 ⟨nd_cons.2 ⟨a5, fun k hk hm => a4 k hk (bkR_cons.2 (.inr hm))⟩, fun k hk hm => ?_⟩, ?_, fun k hk hm => ?_, fun k hk => ?_, fun k hk => ?_⟩
  · rcases bkR_cons.1 hm with hm | hm
    · exact a2 k hk (bkR_cons.2 (.inl hm))
    · exact a2 k hk (bkR_cons.2 (.inr (bkR_cons.2 (.inr hm))))
  · refine nd_cons.2 ⟨?_, fun k _ hm => hn k hm⟩
    rw [List.eq_nil_iff_forall_not_mem.2 hn]
    exact List.nodup_nil
  · have hm := q2 k hm
    rcases bkR_cons.1 hk with hk | hk
    · exact a2 k hk (bkR_cons.2 (.inr (bkR_cons.2 (.inl hm))))
    · rcases bkR_cons.1 hk with hk | hk
      · exact a4 k hk (bkR_cons.2 (.inl hm))
      · exact a6 k hm hk
  · rcases bkR_cons.1 hk with hk | hk
    · exact h.inn k (bkR_cons.2 (.inl hk))
    · rcases bkR_cons.1 hk with hk | hk
      · exact h.inn k (bkR_cons.2 (.inr (bkR_cons.2 (.inl hk))))
      · exact h.inn k (bkR_cons.2 (.inr (bkR_cons.2 (.inr (bkR_cons.2 (.inr hk))))))
  · exact h.inn k (bkR_cons.2 (.inr (bkR_cons.2 (.inr (bkR_cons.2 (.inl (q2 k hk)))))))
theorem mem_flR {T : List Ku} {f : Ku → List Value} {k : Nat} (h : k ∈ bks (T.flatMap f)) : ∃ t, t ∈ T ∧ k ∈ bks (f t) := by
  obtain ⟨v, hv, hb⟩ := mem_bks.1 h
  obtain ⟨t, ht, hv⟩ := List.mem_flatMap.1 hv
  exact ⟨t, ht, mem_bks.2 ⟨v, hv, hb⟩⟩
theorem flR_nd (f : Ku → List Value) : ∀ (T : List Ku), T.Pairwise (fun a b => a.hi ≤ b.lo) → (∀ t ∈ T, (bks (f t)).Nodup ∧ ∀ k, k ∈ bks (f t) → t.lo ≤ k ∧ k < t.hi) → (bks (T.flatMap f)).Nodup
  | [], _, _ => (List.nodup_nil : ([] : List Nat).Nodup)
  | t :: T, hp, h => by
    rw [List.pairwise_cons] at hp
    rw [List.flatMap_cons]
    refine nd_app (h t List.mem_cons_self).1 (flR_nd f T hp.2 fun u hu => h u (List.mem_cons_of_mem _ hu)) fun k hk hm => ?_
    obtain ⟨u, hu, hm⟩ := mem_flR hm
    have a := ((h t List.mem_cons_self).2 k hk).2
    have b := ((h u (List.mem_cons_of_mem _ hu)).2 k hm).1
    have c := hp.1 u hu
    omega
theorem flR_dj (f g : Ku → List Value) : ∀ (T : List Ku), T.Pairwise (fun a b => a.hi ≤ b.lo) → (∀ t ∈ T, (∀ k, k ∈ bks (f t) → k ∉ bks (g t)) ∧ (∀ k, k ∈ bks (f t) → t.lo ≤ k ∧ k < t.hi) ∧ ∀ k, k ∈ bks (g t) → t.lo ≤ k ∧ k < t.hi) → ∀ k, k ∈ bks (T.flatMap f) → k ∉ bks (T.flatMap g)
  | [], _, _ => fun k hk => (by cases hk)
  | t :: T, hp, h => by
    rw [List.pairwise_cons] at hp
    intro k hk hm
    rw [List.flatMap_cons, bks_app, List.mem_append] at hk hm
    obtain ⟨c1, c2, c3⟩ := h t List.mem_cons_self
    rcases hk with hk | hk
    · rcases hm with hm | hm
      · exact c1 k hk hm
      · obtain ⟨u, hu, hm⟩ := mem_flR hm
        have a := (c2 k hk).2
        have b := ((h u (List.mem_cons_of_mem _ hu)).2.2 k hm).1
        have c := hp.1 u hu
        omega
    · rcases hm with hm | hm
      · obtain ⟨u, hu, hk⟩ := mem_flR hk
        have a := (c3 k hm).2
        have b := ((h u (List.mem_cons_of_mem _ hu)).2.1 k hk).1
        have c := hp.1 u hu
        omega
      · exact flR_dj f g T hp.2 (fun u hu => h u (List.mem_cons_of_mem _ hu)) k hk hm
theorem flR_len (f : Ku → List Value) (b : Nat) : ∀ (T : List Ku), (∀ t ∈ T, (f t).length ≤ b) → (T.flatMap f).length ≤ T.length * b
  | [], _ => by simp
  | t :: T, h => by
    have a := h t List.mem_cons_self
    have c := flR_len f b T fun u hu => h u (List.mem_cons_of_mem _ hu)
    rw [List.flatMap_cons, List.length_append, List.length_cons, Nat.succ_mul]
    omega
theorem blR_mk {m : Nat} {w : World} {B : Nat} {T : List Ku} {X : Nat} {vi : Value} (h : Trp w B T) (f : Ku → List Value) (ho : OwnM 1 w vi (T.flatMap f).length (T.flatMap f))
    (hf : ∀ t ∈ T, (bks (f t)).Nodup ∧ (∀ k, k ∈ bks (f t) → t.lo ≤ k ∧ k < t.hi) ∧ (∀ v ∈ f t, ∃ n cs, n ≤ 1000000 ∧ OwnM m w v n cs) ∧ (f t).length ≤ 132) (hX : X < B)
    (hW : ∀ k, vi.ownBlock = some k → ∀ t ∈ T, t.hi ≤ k) (hl : T.length ≤ 4) : Bl m w X vi (T.flatMap f) := by
  refine ⟨ho, fun j v hj => ?_, flR_nd f T h.pw (fun t ht => ⟨(hf t ht).1, (hf t ht).2.1⟩), fun hk => ?_, fun k hk hm => ?_, ?_⟩
  · obtain ⟨t, ht, hv⟩ := List.mem_flatMap.1 (List.mem_of_getElem? hj)
    exact (hf t ht).2.2.1 v hv
  · obtain ⟨t, ht, hk⟩ := mem_flR hk
    have a := ((hf t ht).2.1 X hk).1
    have b := (h.el t ht).2.2.1
    omega
  · obtain ⟨t, ht, hm⟩ := mem_flR hm
    have a := ((hf t ht).2.1 k hm).2
    have b := hW k hk t ht
    omega
  · have := flR_len f 132 T (fun t ht => (hf t ht).2.2.2)
    omega
theorem Trp.bls {w : World} {B : Nat} {T : List Ku} {W X : Nat} {vt vr : Value} (h : Trp w B T) (g : Bh w W X vt vr (T.flatMap g1) (T.flatMap g2)) (hX : X < B) (hW : ∀ t ∈ T, t.hi ≤ W) (hl : T.length ≤ 4) :
    Bl 1 w X vt (T.flatMap g1) ∧ Bl 8 w X vr (T.flatMap g2) := by
  refine ⟨blR_mk h g1 g.ot (fun t ht => ?_) hX (fun k hk t ht => Nat.le_trans (hW t ht) (g.ge k (mem_bks.2 ⟨vt, n0 _ _, hk⟩))) hl, blR_mk h g2 g.oa (fun t ht => ?_) hX (fun k hk t ht => Nat.le_trans (hW t ht) (g.ge k (mem_bks.2 ⟨vr, n1 _ _, hk⟩))) hl⟩
  · obtain ⟨q, _⟩ := h.el t ht
    obtain ⟨a1, _, _, b1, _⟩ := q.apart
    refine ⟨a1, b1, fun v hv => ?_, g1_len q⟩
    rcases List.mem_cons.1 hv with rfl | hv
    · exact q.o1
    · rcases List.mem_cons.1 hv with rfl | hv
      · exact q.o2
      · obtain ⟨y, hy, rfl | rfl⟩ := mem_eps.1 hv
        · exact (q.el y hy).1
        · exact (q.el y hy).2.1
  · obtain ⟨q, _⟩ := h.el t ht
    obtain ⟨_, a1, _, _, b1⟩ := q.apart
    refine ⟨a1, b1, fun v hv => ?_, g2_len q⟩
    rcases List.mem_cons.1 hv with rfl | hv
    · exact ⟨_, _, by have := q.hE; omega, q.o3⟩
    · obtain ⟨y, hy, rfl⟩ := List.mem_map.1 hv
      rw [(q.el y hy).2.2]
      exact ⟨0, [], by omega, OwnM.nil 8 w⟩
theorem Trp.djs {w : World} {B : Nat} {T : List Ku} (h : Trp w B T) :
    (∀ k, k ∈ bks (T.flatMap g1) → k ∉ bks (T.flatMap g2)) ∧ ∀ k, (k ∈ bks (T.flatMap g1) ∨ k ∈ bks (T.flatMap g2)) → B ≤ k ∧ ∃ t ∈ T, k < t.hi := by
  refine ⟨flR_dj g1 g2 T h.pw fun t ht => (h.el t ht).1.apart.2.2, fun k hk => ?_⟩
  have key : ∃ t ∈ T, t.lo ≤ k ∧ k < t.hi := by
    rcases hk with hk | hk
    · obtain ⟨t, ht, hk⟩ := mem_flR hk
      exact ⟨t, ht, (h.el t ht).1.apart.2.2.2.1 k hk⟩
    · obtain ⟨t, ht, hk⟩ := mem_flR hk
      exact ⟨t, ht, (h.el t ht).1.apart.2.2.2.2 k hk⟩
  obtain ⟨t, ht, a, b⟩ := key
  exact ⟨Nat.le_trans (h.el t ht).2.2.1 a, t, ht, b⟩
theorem bl_nil {m : Nat} (w : World) (X : Nat) : Bl m w X (.slice none 0 0) [] := ⟨OwnM.nil 1 w, fun j v hj => (by simp at hj), (List.nodup_nil : ([] : List Nat).Nodup), fun hk => (by cases hk), fun k hk => (by cases hk), by simp⟩
set_option maxRecDepth 100000 in
set_option maxHeartbeats 2000000 in
theorem ownedR17_any {w : World} {B : Nat} {T : List Ku} {W X : Nat} {vt vr : Value} (h : Trp w B T) (g : Bh w W X vt vr (T.flatMap g1) (T.flatMap g2)) (hX : X < B) (hB : B ≤ w.heap.size) (hW : ∀ t ∈ T, t.hi ≤ W) (hl : T.length ≤ 4) :
    Calls Tryz.prog 22 #[.pointer (some ⟨X, 0, none⟩)] w fun e w' => e = .returned (.bool true) ∧ Below B w w' := by
  obtain ⟨L2, L3⟩ := h.bls g hX hW hl
  obtain ⟨d1, d4⟩ := h.djs
  have i1 := numbers17_any g.row (bl_nil w X)
  have nb : ∀ v, v ∈ [vt, vr] → ∀ k, v.ownBlock = some k → ¬ (k ∈ bks (T.flatMap g1) ∨ k ∈ bks (T.flatMap g2)) := fun v hv k hk e => by
    have a := g.ge k (mem_bks.2 ⟨v, hv, hk⟩)
    obtain ⟨_, t, ht, b⟩ := d4 k e
    have := hW t ht
    omega
  have nX : ¬ (X ∈ bks (T.flatMap g1) ∨ X ∈ bks (T.flatMap g2)) := fun e => by have := (d4 X e).1; omega
  have hXl := lt_of_heap g.row
  have n00 : ∀ k, ¬ k ∈ bks ([] : List Value) := fun k hk => (by cases hk)
  have I2 : Hid (∀ w1, Keep (fun k => k ∈ bks ([] : List Value)) w w1 → Calls Tryz.prog 54 #[.pointer (some ⟨X, 0, none⟩)] w1 fun e w' => e = .returned (.bool true) ∧ Keep (fun k => k ∈ bks (T.flatMap g1)) w1 w') := fun w1 k1 =>
    words17_any ((k1.block X hXl (n00 X)).trans g.row) (L2.keep k1 (fun k _ => n00 k) (fun k _ => n00 k))
  have I3 : Hid (∀ w1 w2, Keep (fun k => k ∈ bks ([] : List Value)) w w1 → Keep (fun k => k ∈ bks (T.flatMap g1)) w1 w2 → Calls Tryz.prog 55 #[.pointer (some ⟨X, 0, none⟩)] w2 fun e w' => e = .returned (.bool true) ∧ Keep (fun k => k ∈ bks (T.flatMap g2)) w2 w') := fun w1 w2 k1 k2 =>
    outerR17_any ((k2.block X (Nat.lt_of_lt_of_le hXl k1.size) (fun e => nX (.inl e))).trans ((k1.block X hXl (n00 X)).trans g.row)) ((L3.keep k1 (fun k _ => n00 k) (fun k _ => n00 k)).keep k2 (fun k hk e => nb vr (n1 _ _) k hk (.inl e)) (fun k hk e => d1 k e hk)) ⟨none, 0, rfl⟩
  have BB : Hid (∀ w1 w2 w3, Keep (fun k => k ∈ bks ([] : List Value)) w w1 → Keep (fun k => k ∈ bks (T.flatMap g1)) w1 w2 → Keep (fun k => k ∈ bks (T.flatMap g2)) w2 w3 → Below B w w3) := fun w1 w2 w3 k1 k2 k3 =>
    ((k1.below hB (fun k hk e => n00 k e)).trans (k2.below (Nat.le_trans hB k1.size) (fun k hk e => by have := (d4 k (.inl e)).1; omega))).trans (k3.below (Nat.le_trans hB (Nat.le_trans k1.size k2.size)) (fun k hk e => by have := (d4 k (.inr e)).1; omega))
  clear L2 L3 d1 d4 nb nX hXl h g hW hl hX hB n00
  go_enter Tryz.func22, Tryz.ntmps22
  go_wp2_with (first
    | (go_at_call 53; refine i1.mono ?_; rintro e w1 ⟨rfl, k1⟩; have K1 := hid k1; have i2 := I2.out w1 k1; clear k1)
    | (go_at_call 54; refine i2.mono ?_; rintro e w2 ⟨rfl, k2⟩; have K2 := hid k2; have i3 := I3.out w1 w2 K1.out k2; clear k2)
    | (go_at_call 55; refine i3.mono ?_; rintro e w3 ⟨rfl, k3⟩; have K3 := hid (BB.out w1 w2 w3 K1.out K2.out k3); clear k3))
  go_ret
  exact ⟨rfl, K3.out⟩
end Msg
end Go.Proofs.YtmhgdcfmfcjagaaGreatDoor

namespace Go.Proofs.YtmhgdcfmfcjagaaGreatDoor
open Go.RowKit Cod
namespace Msg
theorem GotR.blw {w w' : World} {lo : Nat} {x : Part} {l : List Part} {ul ue ua : Value} (h : GotR w lo x l ul ue ua) (hb : Below w.heap.size w w') : GotR w' lo x l ul ue ua := by
  obtain ⟨h1, h2, h3, h4, h5, h6⟩ := h
  have k : Keep (fun k => w.heap.size ≤ k) w w' := Keep.ofBelow hb
  have hS : ∀ k, lo ≤ k → k < w.heap.size → ¬ w.heap.size ≤ k := fun k _ h e => by omega
  exact ⟨h2.slc h1 k hS, h2.mono (Nat.le_refl _) hb.size, h4.slc h3 k hS, h4.mono (Nat.le_refl _) hb.size, (h5.keep k hS).mono (Nat.le_refl _) hb.size, h6⟩
structure Lp (w0 w : World) (k0 : Int) (X A : Nat) (S : List ByteArray) (B : Nat) (vl : Value) (T : List Ku) : Prop where
  bl : Below w0.heap.size w0 w
  ask : ∀ j b, S[j]? = some b → w.cell? ⟨A, j, none⟩ = some (.string b)
  trs : Trp w B T
  own : OwnM 8 w vl T.length (epcs (T.map (·.m)))
  vb : ∀ k, vl.ownBlock = some k → B ≤ k ∧ ∀ t ∈ T, ¬ (t.lo ≤ k ∧ k < t.hi)
  eq : ∀ (j : Nat) t, T[j]? = some t → ∃ b, S[j]? = some b ∧ (t.x, t.l) = rQ k0 b.data.toList
  hX : X < B
  hA : A < X
  hB : B ≤ w.heap.size
  h0 : w0.heap.size ≤ A
theorem Lp.up {w0 w w' : World} {k0 : Int} {X A : Nat} {S : List ByteArray} {B : Nat} {vl : Value} {T : List Ku} (h : Lp w0 w k0 X A S B vl T) (hb : Below w.heap.size w w') : Lp w0 w' k0 X A S B vl T :=
  ⟨h.bl.trans (hb.mono h.bl.size), fun j b hj => (hb.cell (p := ⟨A, j, none⟩) (by show A < _; have := h.hA; have := h.hX; have := h.hB; omega)).trans (h.ask j b hj), h.trs.below hb, h.own.below hb, h.vb, h.eq, h.hX, h.hA, Nat.le_trans h.hB hb.size, h.h0⟩
theorem Lp.nil {w0 w : World} {k0 : Int} {X A : Nat} {S : List ByteArray} {B : Nat} (hb : Below w0.heap.size w0 w) (ask : ∀ j b, S[j]? = some b → w.cell? ⟨A, j, none⟩ = some (.string b)) (hX : X < B) (hA : A < X) (hB : B ≤ w.heap.size) (h0 : w0.heap.size ≤ A) : Lp w0 w k0 X A S B (.slice none 0 0) [] :=
  ⟨hb, ask, Trp.nil w B, OwnM.nil 8 w, fun k hk => (by cases hk), fun j t hj => (by simp at hj), hX, hA, hB, h0⟩
theorem Lp.push {w0 w w5 : World} {k0 : Int} {X A : Nat} {S : List ByteArray} {B : Nat} {vl : Value} {T : List Ku} (h : Lp w0 w k0 X A S B vl T) (hb : Below w.heap.size w w5) (t : Ku) (ht : Kp w5 t.lo t.hi t.x t.l t.m t.E) (hq : QRp t.x t.l) (h1 : w.heap.size ≤ t.lo) (h2 : t.hi ≤ w5.heap.size)
    {b : ByteArray} (hj : S[T.length]? = some b) (he : (t.x, t.l) = rQ k0 b.data.toList) (hT : T.length ≤ 1000) :
    ∃ v' w', (Builtin.append_ #[43, 43] 43 #[vl, .slice (some ⟨w5.heap.size, 0, none⟩) 1 1]).run Tryz.prog (w5.alloc (.cells #[.int .i64 t.x.status, .int .i64 t.x.size, .int .i64 t.x.a, .int .i64 t.x.b, .string ⟨t.x.root.toArray⟩, t.m.h, t.m.e, t.m.p] 45)) = .ok v' w' ∧
      Lp w0 w' k0 X A S B v' (T ++ [t]) ∧ Grow w5 w' vl v' := by
  obtain ⟨p1, q1, e1, _⟩ := id ht.s1
  obtain ⟨p2, q2, e2, _⟩ := id ht.s2
  obtain ⟨p3, q3, e3⟩ := id ht.psq.shape
  have h5 := h.up hb
  have t5 := h.trs.push hb t ht hq h1 h2 h.hB
  obtain ⟨v', w', r1, r2, r3⟩ := append_kM 43 45 (.agg #[.int .i64 0, .int .i64 0, .int .i64 0, .int .i64 0, .string ⟨#[]⟩, .slice none 0 0, .slice none 0 0, .slice none 0 0]) 120 (by omega) (by kernel_rfl) infoR17 rfl w5 vl T.length (epcs (T.map (·.m))) 1 (by omega) (by omega) (epc t.m) rfl (fun u hu => by
    simp only [epc, List.mem_cons, List.not_mem_nil, or_false] at hu
    rcases hu with rfl | rfl | rfl | rfl | rfl | rfl | rfl | rfl
    · rfl
    · rfl
    · rfl
    · rfl
    · rfl
    · rw [e1]; rfl
    · rw [e2]; rfl
    · rw [e3]; rfl) h5.own (by omega)
  have hX := h.hX
  have hA := h.hA
  have hB := h5.hB
  have h00 := h.h0
  refine ⟨v', w', by rw [epc, ht.mx] at r1; exact r1, ⟨?_, fun j b hj => ?_, t5.keep r3.keepG (fun u hu k a c e => ?_), ?_, fun k hk => ?_, fun j u hu => ?_, hX, hA, Nat.le_trans hB r3.size, h00⟩, r3⟩
  · refine h5.bl.trans ?_
    exact r3.keepG.below h5.bl.size (fun k hk e => by have := (h.vb k e).1; omega)
  · rw [World.cell?_of_block (w := w5) (a := ⟨A, j, none⟩) (r3.old A (by omega) (fun e => by have := (h.vb A e).1; omega))]
    exact h5.ask j b hj
  · have e : vl.ownBlock = some k := e
    rcases List.mem_append.1 hu with hu | hu
    · exact (h.vb k e).2 u hu ⟨a, c⟩
    · rw [List.mem_singleton.1 hu] at a
      have := h.own.lt k e
      omega
  · rw [List.length_append, List.map_append, List.map_cons, List.map_nil, epcs_snoc]
    exact r2
  · rcases r3.alt with g | ⟨g, _⟩
    · rw [g] at hk
      refine ⟨(h.vb k hk).1, fun u hu hc => ?_⟩
      rcases List.mem_append.1 hu with hu | hu
      · exact (h.vb k hk).2 u hu hc
      · rw [List.mem_singleton.1 hu] at hc
        have := h.own.lt k hk
        omega
    · have := g k hk
      refine ⟨by omega, fun u hu hc => ?_⟩
      have := (t5.el u hu).2.2.2
      omega
  · rw [List.getElem?_append] at hu
    split at hu
    · exact h.eq j u hu
    · next hlt =>
      obtain rfl : j = T.length := by
        have := (List.getElem?_eq_some_iff.1 hu).1
        simp at this
        omega
      rw [Nat.sub_self] at hu
      obtain rfl : t = u := Option.some.inj hu
      exact ⟨b, hj, he⟩
structure Lq (w0 w : World) (k0 : Int) (W X A : Nat) (S : List ByteArray) (B : Nat) (vl : Value) (T : List Ku) (p : Nat) (vt vr : Value) : Prop where
  c : Lp w0 w k0 X A S B vl T
  g : Bh w W X vt vr ((T.take p).flatMap g1) ((T.take p).flatMap g2)
  BW : B ≤ W
  hW : W ≤ w.heap.size
  hi : ∀ t ∈ T, t.hi ≤ W
  vW : ∀ k, vl.ownBlock = some k → k < W
theorem Lq.up {w0 w w' : World} {k0 : Int} {W X A : Nat} {S : List ByteArray} {B : Nat} {vl : Value} {T : List Ku} {p : Nat} {vt vr : Value} (h : Lq w0 w k0 W X A S B vl T p vt vr) (hb : Below w.heap.size w w') : Lq w0 w' k0 W X A S B vl T p vt vr :=
  ⟨h.c.up hb, h.g.below hb, h.BW, Nat.le_trans h.hW hb.size, h.hi, h.vW⟩
theorem Lq.start {w0 w : World} {k0 : Int} {X A : Nat} {S : List ByteArray} {B : Nat} {vl : Value} {T : List Ku} (h : Lp w0 w k0 X A S B vl T) (row : w.heap[X]? = some (.cells #[.slice none 0 0, .slice none 0 0, .slice none 0 0, .slice none 0 0] 34 (0, 0))) :
    Lq w0 w k0 w.heap.size X A S B vl T 0 (.slice none 0 0) (.slice none 0 0) :=
  ⟨h, ⟨row, OwnM.nil 1 w, OwnM.nil 1 w, lt_of_heap row, fun k hk => (by cases hk), (List.nodup_nil : ([] : List Nat).Nodup)⟩, h.hB, Nat.le_refl _, fun t ht => (h.trs.el t ht).2.2.2, fun k hk => h.own.lt k hk⟩
theorem Lq.next {w0 w : World} {k0 : Int} {W X A : Nat} {S : List ByteArray} {B : Nat} {vl : Value} {T : List Ku} {p : Nat} {vt vr : Value} (h : Lq w0 w k0 W X A S B vl T p vt vr) (hT : T.length ≤ 4) {t : Ku} (ht : T[p]? = some t) :
    Calls Tryz.prog 25 #[.pointer (some ⟨X, 0, none⟩), rpV t.x t.m.h t.m.e t.m.p] w fun e w' => e = .returned (.tuple #[]) ∧ ∃ vt' vr', Lq w0 w' k0 W X A S B vl T (p + 1) vt' vr' := by
  have hm := List.mem_of_getElem? ht
  obtain ⟨q, hq, hlo, hhi⟩ := h.c.trs.el t hm
  have hX := h.c.hX
  have hA := h.c.hA
  have h00 := h.c.h0
  have hBW := h.BW
  obtain ⟨p1, q1, e1, _⟩ := id q.s1
  obtain ⟨p2, q2, e2, _⟩ := id q.s2
  have l1 : ∀ f : Ku → List Value, (∀ u ∈ T, (f u).length ≤ 132) → ((T.take p).flatMap f).length ≤ 800 := fun f hf => by
    have a := flR_len f 132 (T.take p) (fun u hu => hf u (List.mem_of_mem_take hu))
    have b : (T.take p).length ≤ 4 := by rw [List.length_take]; omega
    omega
  have i1 := gatherR_any h.g h.hW ⟨Nat.le_trans (l1 g1 fun u hu => g1_len (h.c.trs.el u hu).1) (by omega), l1 g2 fun u hu => g2_len (h.c.trs.el u hu).1⟩
    t.x t.m.h t.m.e t.m.p ⟨_, _, _, e1⟩ ⟨_, _, _, e2⟩ t.E q.o3 (fun k hk => by
      have a := q.inn k (mem_bks.2 ⟨_, by simp, hk⟩)
      have b := h.hi t hm
      exact ⟨by omega, by omega⟩) (by have := q.hE; omega) (fun y hy => by
      obtain ⟨⟨n, cs, _, a⟩, ⟨n', cs', _, b⟩, c⟩ := q.el y hy
      obtain ⟨x1, x2, x3, _⟩ := a.shape
      obtain ⟨y1, y2, y3, _⟩ := b.shape
      exact ⟨⟨_, _, _, x3⟩, ⟨_, _, _, y3⟩, c⟩)
  refine i1.mono ?_
  rintro e w' ⟨rfl, vt', vr', g', G⟩
  have nk : ∀ k, (k = X ∨ k ∈ bks [vt, vr]) → k = X ∨ W ≤ k := fun k e => by
    rcases e with e | e
    · exact .inl e
    · exact .inr (h.g.ge k e)
  refine ⟨rfl, vt', vr', ⟨⟨?_, fun j b hj => ?_, h.c.trs.keep G.kp (fun u hu k a c e => ?_), h.c.own.keep G.kp (fun k hk e => ?_), h.c.vb, h.c.eq, hX, hA, Nat.le_trans h.c.hB G.kp.size, h00⟩, ?_, hBW, Nat.le_trans h.hW G.kp.size, h.hi, h.vW⟩⟩
  · refine h.c.bl.trans (G.kp.below h.c.bl.size (fun k hk e => ?_))
    rcases nk k e with e | e <;> omega
  · rw [World.cell?_of_block (w := w) (a := ⟨A, j, none⟩) (G.kp.block A (by have := h.hW; omega) (fun e => by rcases nk A e with e | e <;> omega))]
    exact h.c.ask j b hj
  · have a1 := (h.c.trs.el u hu).2.2.1
    have a2 := h.hi u hu
    rcases nk k e with e | e <;> omega
  · have a1 := (h.c.vb k hk).1
    have a2 := h.vW k hk
    rcases nk k e with e | e <;> omega
  · have ex : ∀ f : Ku → List Value, (T.take (p + 1)).flatMap f = (T.take p).flatMap f ++ f t := fun f => by
      rw [List.take_add_one, ht]
      simp
    rw [ex, ex]
    have e1 : (T.take p).flatMap g1 ++ g1 t = (T.take p).flatMap g1 ++ [t.m.h, t.m.e] ++ eps t.E := by rw [g1]; simp
    rw [e1]
    exact g'
end Msg
end Go.Proofs.YtmhgdcfmfcjagaaGreatDoor
