import Derived.Test.YtmhgdcfmfcjagaaGreatDoorPkMU2
import Derived.Test.YtmhgdcfmfcjagaaGreatDoorPkMT6
namespace Go.Proofs.YtmhgdcfmfcjagaaGreatDoor
open Go.RowKit Cod
namespace Msg

/-- an element of the list of parts while it is made -/
structure Ep where
  x : Part
  h : Value
  e : Value
  p : Value
def epc (m : Ep) : List Value := [.int .i64 m.x.status, .int .i64 m.x.size, .int .i64 m.x.a, .int .i64 m.x.b, sv m.x.root, m.h, m.e, m.p]
def epcs (E : List Ep) : List Value := (E.map epc).flatten
theorem epcs_at : ∀ (E : List Ep) (j : Nat) (m : Ep) (i : Nat), E[j]? = some m → i < 8 → (epcs E)[j * 8 + i]? = (epc m)[i]?
  | [], j, m, i, h, _ => by simp at h
  | n :: E, 0, m, i, h, hi => by
    obtain rfl := Option.some.inj (by simpa using h)
    rw [epcs, List.map_cons, List.flatten_cons, List.getElem?_append_left (by simp [epc]; omega)]
    simp
  | n :: E, j + 1, m, i, h, hi => by
    rw [epcs, List.map_cons, List.flatten_cons, List.getElem?_append_right (by simp [epc]; omega), ← epcs]
    rw [show (j + 1) * 8 + i - (epc n).length = j * 8 + i from by simp [epc]; omega]
    exact epcs_at E j m i (by simpa using h) hi
theorem epcs_snoc (E : List Ep) (m : Ep) : epcs (E ++ [m]) = epcs E ++ epc m := by simp [epcs]
structure EpI (w : World) (lo : Nat) (v : Value) (m : Ep) : Prop where
  s1 : Slc w m.h m.x.hs
  s2 : Slc w m.e m.x.ent
  s3 : ∃ p q, m.p = .slice p m.x.n q
  n1 : Nw lo w.heap.size m.h
  n2 : Nw lo w.heap.size m.e
  a1 : Apart m.h (OwnS v)
  a2 : Apart m.e (OwnS v)
structure Hl (w : World) (lo : Nat) (v : Value) (E : List Ep) : Prop where
  own : OwnM 8 w v E.length (epcs E)
  ge : ∀ k, v.ownBlock = some k → lo ≤ k
  el : ∀ m ∈ E, EpI w lo v m
theorem Hl.nil (w : World) (lo : Nat) : Hl w lo (.slice none 0 0) [] := ⟨OwnM.nil 8 w, fun k hk => (by cases hk), fun m hm => (by cases hm)⟩
theorem Hl.keep {S : Nat → Prop} {w w' : World} {lo : Nat} {v : Value} {E : List Ep} (h : Hl w lo v E) (hb : Keep S w w') (hS : ∀ k, lo ≤ k → k < w.heap.size → ¬ S k) : Hl w' lo v E :=
  ⟨h.own.keep hb (fun k hk => hS k (h.ge k hk) (h.own.lt k hk)), h.ge, fun m hm => by
    have g := h.el m hm
    exact ⟨g.n1.slc g.s1 hb (fun k k1 k2 => hS k k1 k2), g.n2.slc g.s2 hb (fun k k1 k2 => hS k k1 k2), g.s3, g.n1.mono (Nat.le_refl _) hb.size, g.n2.mono (Nat.le_refl _) hb.size, g.a1, g.a2⟩⟩
theorem Hl.ps {w : World} {lo : Nat} {v : Value} {E : List Ep} (h : Hl w lo v E) : Ps w lo w.heap.size v (E.map (·.x)) := by
  rcases h.own with ⟨rfl, hE, _⟩ | ⟨g, cap, rfl, h1, h2, h3, h4, h5, h6⟩
  · have : E = [] := List.length_eq_zero_iff.1 hE
    subst this
    exact .inl ⟨rfl, rfl⟩
  · refine .inr ⟨g, cap, by rw [List.length_map], h.ge g rfl, h6, h6, fun j x hx => ?_⟩
    rw [List.getElem?_map] at hx
    cases hm : E[j]? with
    | none => rw [hm] at hx; cases hx
    | some m =>
      rw [hm] at hx
      obtain rfl := Option.some.inj hx
      have gm := h.el m (List.mem_of_getElem? hm)
      have key : ∀ i u, i < 8 → (epc m)[i]? = some u → w.cell? ⟨g, j * 8 + i, none⟩ = some u := fun i u hi hu => by
        have := h4 (j * 8 + i) u (by rw [epcs_at E j m i hm hi]; exact hu)
        rwa [Nat.zero_add] at this
      exact ⟨m.h, m.e, m.p, key 0 _ (by omega) rfl, key 1 _ (by omega) rfl, key 2 _ (by omega) rfl, key 3 _ (by omega) rfl, key 4 _ (by omega) rfl, key 5 _ (by omega) rfl, key 6 _ (by omega) rfl, key 7 _ (by omega) rfl, gm.n1, gm.n2, gm.s1, gm.s2, gm.s3⟩
theorem infoRp : (Tryz.prog.info? 45).map (fun i => (i.zero, i.size, i.bytes)) = some (some (.agg #[.int .i64 0, .int .i64 0, .int .i64 0, .int .i64 0, .string ⟨#[]⟩, .slice none 0 0, .slice none 0 0, .slice none 0 0]), 8, 120) := by kernel_rfl
theorem Hl.push {w : World} {lo : Nat} {v : Value} {E : List Ep} (h : Hl w lo v E) (hlo : lo ≤ w.heap.size) (hE : E.length ≤ 2000000) (m : Ep) (hm : Slc w m.h m.x.hs ∧ Slc w m.e m.x.ent ∧ (∃ p q, m.p = .slice p m.x.n q) ∧ Nw lo w.heap.size m.h ∧ Nw lo w.heap.size m.e) (ha1 : Apart m.h (OwnS v)) (ha2 : Apart m.e (OwnS v)) :
    ∃ v' w', (Builtin.append_ #[43, 43] 43 #[v, .slice (some ⟨w.heap.size, 0, none⟩) 1 1]).run Tryz.prog (w.alloc (.cells (epc m).toArray 45)) = .ok v' w' ∧ Hl w' lo v' (E ++ [m]) ∧ Keep (OwnS v) w w' := by
  obtain ⟨p1, q1, e1, _⟩ := id hm.1
  obtain ⟨p2, q2, e2, _⟩ := id hm.2.1
  obtain ⟨p3, q3, e3⟩ := id hm.2.2.1
  obtain ⟨v', w', r1, r2, r3⟩ := append_oneM 43 45 (.agg #[.int .i64 0, .int .i64 0, .int .i64 0, .int .i64 0, .string ⟨#[]⟩, .slice none 0 0, .slice none 0 0, .slice none 0 0]) 120 (by omega) (by kernel_rfl) infoRp rfl w v E.length (epcs E) (epc m) rfl (fun u hu => by
    simp only [epc, List.mem_cons, List.not_mem_nil, or_false] at hu
    rcases hu with rfl | rfl | rfl | rfl | rfl | rfl | rfl | rfl
    · rfl
    · rfl
    · rfl
    · rfl
    · rfl
    · rw [e1]; rfl
    · rw [e2]; rfl
    · rw [e3]; rfl) h.own hE
  have kp : Keep (OwnS v) w w' := r3.keepG
  have keepT : ∀ (u : Value) (ps : List (List UInt8)), Slc w u ps → Apart u (OwnS v) → Slc w' u ps := fun u ps hs ha => hs.keep kp ha
  have apv : ∀ u, Nw lo w.heap.size u → Apart u (OwnS v) → Apart u (OwnS v') := fun u hn ha x n c e h0 hk => by
    rcases r3.alt with g | ⟨g, _⟩
    · exact ha x n c e h0 (by show v.ownBlock = _; rw [← g]; exact hk)
    · have := g _ hk
      have := (hn x n c e).2
      omega
  refine ⟨v', w', r1, ⟨by rw [List.length_append, epcs_snoc]; exact r2, fun k hk => ?_, fun m' hm' => ?_⟩, kp⟩
  · rcases r3.alt with g | ⟨g, _⟩
    · exact h.ge k (by rw [← g]; exact hk)
    · have := g k hk; omega
  · rcases List.mem_append.1 hm' with hm' | hm'
    · have g := h.el m' hm'
      exact ⟨keepT _ _ g.s1 g.a1, keepT _ _ g.s2 g.a2, g.s3, g.n1.mono (Nat.le_refl _) kp.size, g.n2.mono (Nat.le_refl _) kp.size, apv _ g.n1 g.a1, apv _ g.n2 g.a2⟩
    · rw [List.mem_singleton] at hm'
      subst hm'
      exact ⟨keepT _ _ hm.1 ha1, keepT _ _ hm.2.1 ha2, hm.2.2.1, hm.2.2.2.1.mono (Nat.le_refl _) kp.size, hm.2.2.2.2.mono (Nat.le_refl _) kp.size, apv _ hm.2.2.2.1 ha1, apv _ hm.2.2.2.2 ha2⟩
/-- while the parts are taken -/
structure Pl (w wr : World) (b c n : Nat) (R : List Part × TS) (v : Value) (k : Nat) (E : List Ep) (s : TS) : Prop where
  tk : Tk wr b c s
  kp : Keep (BC b c) w wr
  gl : Hl wr w.heap.size v E
  ln : E.length = k
  eq : tManyP (n - k) (E.map (·.x)) s = R
/-- a reply on its way, made anew -/
theorem ua_new {w W : World} {b c d : Nat} {s : TS} (h : Tk w b c s) (bW : Below w.heap.size w W) (hr : W.heap[d]? = some (.cells (rpArr (tak c) Part.zero (.slice none 0 0) (.slice none 0 0) (.slice none 0 0) Part.zero (.slice none 0 0) (.slice none 0 0) (.slice none 0 0)) 114 (0, 0))) (hd : w.heap.size ≤ d) :
    Ua W (d + 1) b c d ((Part.zero, []), s) (.slice none 0 0) (.slice none 0 0) (.slice none 0 0) := by
  have hcl := h.lt
  have hbl := h.rd.lt
  exact ⟨h.below bW, hr, by omega, by omega, by omega, by omega, by omega, nilT _, Nw.nil _ _, nilT _, Nw.nil _ _, .inl ⟨rfl, rfl⟩, rfl⟩
set_option maxRecDepth 100000 in
set_option maxHeartbeats 4000000 in
theorem takeParts_any {b c : Nat} {s : TS} (z : Value) (w : World) (h : Tk w b c s) :
    Calls Tryz.prog 177 #[.pointer (some ⟨c, 0, none⟩), z] w fun e w' => TkL w b c (tParts s).2 e w' fun v => Ps w' w.heap.size w'.heap.size v (tParts s).1 := by
  have i1 := count_any w h
  have hmx := tMany_max s
  have e1 : tParts s = tManyP (tCount s).1 [] (tCount s).2 := rfl
  rw [e1]
  generalize (tCount s).1 = n at *
  generalize (tCount s).2 = s1 at *
  have hbl := h.rd.lt
  have hcl := h.lt
  clear h e1
  obtain ⟨R, hR⟩ : ∃ R, Hid (tManyP n [] s1 = R) := ⟨_, rfl⟩
  rw [hR.out]
  go_enter Tryz.func177, Tryz.ntmps177
  go_wp2_with (go_at_call 174; refine i1.mono ?_; rintro e w1 ⟨rfl, h1, h2⟩; have H1 := hid h1; have H2 := hid h2; clear h1 h2)
  go_loopw [5, 9] (fun l i w' => ∃ (k : Nat) (E : List Ep) (s' : TS), k ≤ n ∧ i = .int .i64 k ∧ Hid (Pl w w' b c n R l k E s')) (fun _ i _ => n - (intOf i).toNat)
  case atStart => exact ⟨0, [], s1, by omega, rfl, ⟨H1.out, H2.out, Hl.nil _ _, rfl, hR.out⟩⟩
  case round =>
    obtain ⟨k, E, s', hk, rfl, hM⟩ := hrel
    by_cases hlt : k < n
    · have hlt' : (k : Int) < (n : Int) := by omega
      have bA := (Below.refl wr.heap.size wr).alloc (Nat.le_refl _) (.cells (rpArr (tak c) Part.zero (.slice none 0 0) (.slice none 0 0) (.slice none 0 0) Part.zero (.slice none 0 0) (.slice none 0 0) (.slice none 0 0)) 114)
      have zA := size_alloc wr (.cells (rpArr (tak c) Part.zero (.slice none 0 0) (.slice none 0 0) (.slice none 0 0) Part.zero (.slice none 0 0) (.slice none 0 0) (.slice none 0 0)) 114)
      have hU := ua_new (d := wr.heap.size) hM.out.tk bA (heap_alloc_new _ _) (Nat.le_refl _)
      have i2 := partT_any hU (by omega)
      have BA := hid bA
      have ZA := hid zA
      simp only [tak, rpArr, Part.zero, sv] at i2 BA ZA
      clear bA zA hU
      go_wp2_with (go_at_call 162; fail)
      go_at_call 162
      refine i2.mono ?_
      rintro e w2 ⟨rfl, th, te, tp, g1, g2⟩
      obtain ⟨x, hx⟩ : ∃ x, Hid ((tPart s').1 = x) := ⟨_, rfl⟩
      obtain ⟨s2, hs2⟩ : ∃ s2, Hid ((tPart s').2 = s2) := ⟨_, rfl⟩
      have hx' : (tTail 0 tForm s').1.1 = x := hx.out
      have hs' : (tTail 0 tForm s').2 = s2 := hs2.out
      generalize tTail 0 tForm s' = P at *
      have k2 : Keep (DSet b c wr.heap.size) wr w2 := (Keep.ofBelow BA.out : Keep (DSet b c wr.heap.size) wr _).trans g2 (fun _ _ e => e)
      have hsz : w.heap.size ≤ wr.heap.size := hM.out.kp.size
      have hszz : wr.heap.size + 1 ≤ w2.heap.size := by have := g2.size; have := ZA.out; omega
      have hGl := hM.out.gl.keep k2 (fun j hj hj2 e => by rcases e with e | e | e <;> omega)
      have hvl := hM.out.gl.own.lt
      have hvg := hM.out.gl.ge
      have hln := hM.out.ln
      have ap : ∀ u, Nw (wr.heap.size + 1) w2.heap.size u → Apart u (OwnS u5) := fun u hn y m cc e _ hk => by
        have := hvl _ hk
        have := (hn y m cc e).1
        omega
      have hshape : ∃ p q, tp = .slice p x.n q := by
        obtain ⟨p, q, e⟩ := g1.s3.shape
        exact ⟨p, q, by rw [e, ← g1.sn, hx']⟩
      obtain ⟨p1, q1, e1, _⟩ := id g1.s1
      obtain ⟨p2, q2, e2, _⟩ := id g1.s2
      obtain ⟨p3, q3, e3⟩ := id hshape
      have t1 := g1.s1
      have t2 := g1.s2
      rw [hx'] at t1 t2 e1 e2
      subst e1 e2 e3
      obtain ⟨v', w3, r1, r2, r3⟩ := hGl.push (by omega) (by omega) ⟨x, .slice p1 x.hs.length q1, .slice p2 x.ent.length q2, .slice p3 x.n q3⟩ ⟨t1, t2, hshape, g1.n1.mono (by omega) (Nat.le_refl _), g1.n2.mono (by omega) (Nat.le_refl _)⟩ (ap _ g1.n1) (ap _ g1.n2)
      have hc : (Builtin.append_ #[43, 43] 43 #[u5, .slice (some ⟨w2.heap.size, 0, none⟩) 1 1]).run Tryz.prog (w2.alloc (.cells #[.int .i64 x.status, .int .i64 x.size, .int .i64 x.a, .int .i64 x.b, .string ⟨x.root.toArray⟩, .slice p1 x.hs.length q1, .slice p2 x.ent.length q2, .slice p3 x.n q3] 45)) = .ok v' w3 := r1
      have tk2 : Tk w2 b c s2 := hs' ▸ g1.tk
      have N : Hid (Pl w w3 b c n R v' (k + 1) (E ++ [⟨x, .slice p1 x.hs.length q1, .slice p2 x.ent.length q2, .slice p3 x.n q3⟩]) s2) := by
        refine ⟨tk2.keep r3 (fun e => by have := hvg _ e; omega) (fun e => by have := hvg _ e; omega), (hM.out.kp.trans (T := DSet b c wr.heap.size) k2 (fun j hj e => by
          rcases e with e | e | e
          · exact .inl e
          · exact .inr e
          · omega)).trans r3 (fun j hj e => by have := hvg _ e; omega), r2, by rw [List.length_append, hln]; rfl, ?_⟩
        have := hM.out.eq
        rw [show n - k = (n - (k + 1)) + 1 from by omega, tManyP, hx.out, hs2.out] at this
        rw [List.map_append]; exact this
      have d0 : w2.cell? ⟨wr.heap.size, 9, none⟩ = some (.int .i64 x.status) := by rw [cell_of_row _ _ _ _ _ _ g1.row, ← hx']; rfl
      have d1 : w2.cell? ⟨wr.heap.size, 10, none⟩ = some (.int .i64 x.size) := by rw [cell_of_row _ _ _ _ _ _ g1.row, ← hx']; rfl
      have d2 : w2.cell? ⟨wr.heap.size, 11, none⟩ = some (.int .i64 x.a) := by rw [cell_of_row _ _ _ _ _ _ g1.row, ← hx']; rfl
      have d3 : w2.cell? ⟨wr.heap.size, 12, none⟩ = some (.int .i64 x.b) := by rw [cell_of_row _ _ _ _ _ _ g1.row, ← hx']; rfl
      have d4 : w2.cell? ⟨wr.heap.size, 13, none⟩ = some (.string ⟨x.root.toArray⟩) := by rw [cell_of_row _ _ _ _ _ _ g1.row, ← hx']; rfl
      have d5 : w2.cell? ⟨wr.heap.size, 14, none⟩ = some (.slice p1 x.hs.length q1) := by rw [cell_of_row _ _ _ _ _ _ g1.row]; rfl
      have d6 : w2.cell? ⟨wr.heap.size, 15, none⟩ = some (.slice p2 x.ent.length q2) := by rw [cell_of_row _ _ _ _ _ _ g1.row]; rfl
      have d7 : w2.cell? ⟨wr.heap.size, 16, none⟩ = some (.slice p3 x.n q3) := by rw [cell_of_row _ _ _ _ _ _ g1.row]; rfl
      clear g1 g2 k2 r1 r2 r3 hshape hGl hvl hvg ap i2 t1 t2 tk2 hx' hs' BA ZA hszz
      go_wp2_with (at_builtin; go_must (refine Lib.wpList_append_run _ rfl _ _ 43 43 rfl _ _ rfl rfl _ _ hc ?_))
      exact ⟨⟨k + 1, _, s2, by omega, by go_num, N⟩, by simp [intOf]; omega⟩
    · obtain rfl : k = n := by omega
      have hE := hM.out.eq
      rw [Nat.sub_self, tManyP] at hE
      obtain ⟨p, q, hu, _, _⟩ := hM.out.gl.own.shape
      subst hu
      subst hE
      go_wp2
      go_ret
      exact ⟨_, rfl, hM.out.gl.ps, fun y m cc e => (by
        have ha := hM.out.gl
        cases e
        exact ⟨ha.ge _ rfl, ha.own.lt _ rfl⟩), hM.out.tk, hM.out.kp⟩
end Msg
end Go.Proofs.YtmhgdcfmfcjagaaGreatDoor

namespace Go.Proofs.YtmhgdcfmfcjagaaGreatDoor
open Go.RowKit Cod
namespace Msg

set_option maxRecDepth 100000 in
set_option maxHeartbeats 2000000 in
theorem u_parts {w : World} {B b c d : Nat} {p : PR} {th te tp : Value} (h : Ua w B b c d p th te tp) (hB : B ≤ w.heap.size) :
    Calls Tryz.prog 120 #[.pointer (some ⟨d, 0, none⟩)] w fun e w' => e = .returned (.tuple #[]) ∧ UPost w B b c d (tFr tParts .parts p) w' := by
  have c0 : w.cell? ⟨d, 0, none⟩ = some (tak c) := by rw [cell_of_row _ _ _ _ _ _ h.row]; rfl
  have c4 : w.cell? ⟨d, 8, none⟩ = some (.slice none 0 0) := by rw [cell_of_row _ _ _ _ _ _ h.row]; rfl
  have i1 := takeParts_any (.slice none 0 0) w.drew h.tk.drew
  rw [tak] at c0
  have mm := m_taking_parts ⟨c, 0, none⟩
  have HQ := hid h
  have HB := hid hB
  clear h hB
  go_enter Tryz.func120, Tryz.ntmps120
  go_region_held3 (fun w' => w'.cell? ⟨d, 0, none⟩ = some (.iface 127 (.pointer (some ⟨c, 0, none⟩))) ∧ w'.cell? ⟨d, 8, none⟩ = some (.slice none 0 0)) (first | exact ⟨c0, c4⟩ | exact S2 | exact S3) (first | (go_at_call 177; (with_reducible refine i1.mono ?_); rintro e w2 ⟨v, rfl, hq, hn, ht, hk⟩; obtain ⟨p1, q1, rfl⟩ := hq.shape; have HV := hid (hq.mono HB.out (Nat.le_refl _)); clear hq hn; have hk := Keep.drew' hk; have hrow := HQ.out.row2 hk; have g0 : w2.frozen? ⟨d, 16, none⟩ = false := frozen_of_row _ _ _ _ _ hrow; have e0 : w2.cell? ⟨d, 16, none⟩ = some tp := (by rw [cell_of_row _ _ _ _ _ _ hrow]; rfl); have S2 : w2.cell? ⟨d, 0, none⟩ = some (tak c) ∧ w2.cell? ⟨d, 8, none⟩ = some (.slice none 0 0) := ⟨by rw [cell_of_row _ _ _ _ _ _ hrow]; rfl, by rw [cell_of_row _ _ _ _ _ _ hrow]; rfl⟩; have hrow3 := row_set 16 (.slice p1 (tParts p.2).1.length q1) hrow rfl; have S3 : (w2.setCell ⟨d, 16, none⟩ (.slice p1 (tParts p.2).1.length q1)).cell? ⟨d, 0, none⟩ = some (tak c) ∧ (w2.setCell ⟨d, 16, none⟩ (.slice p1 (tParts p.2).1.length q1)).cell? ⟨d, 8, none⟩ = some (.slice none 0 0) := ⟨by rw [cell_of_row _ _ _ _ _ _ hrow3]; rfl, by rw [cell_of_row _ _ _ _ _ _ hrow3]; rfl⟩; rw [tak] at S2 S3; have HK := hid hk; have HT := hid ht; clear hk ht hrow hrow3))
  go_end0
  exact ⟨rfl, HQ.out.put HK.out (tFr tParts .parts p) HT.out 16 _ _ _ _ rfl (HQ.out.o1 HK.out) (HQ.out.o2 HK.out) HV.out rfl⟩
theorem sizeRp : (Tryz.prog.info? 45).map (·.size) = some 8 := by kernel_rfl
theorem sizeRp' (a b c d e f g h : Value) : (Tryz.prog.info? 45).map (·.size) = some #[a, b, c, d, e, f, g, h].size := sizeRp
theorem oneRp (b1 b2 b3 b4 : Int) (r : ByteArray) (a1 a2 a3 : Option Addr) (n1 n2 n3 c1 c2 c3 : Nat) : (#[Value.int .i64 b1, .int .i64 b2, .int .i64 b3, .int .i64 b4, .string r, .slice a1 n1 c1, .slice a2 n2 c2, .slice a3 n3 c3].all (·.oneCell')) = true := all_oneCell_toArray (cs := [Value.int .i64 b1, .int .i64 b2, .int .i64 b3, .int .i64 b4, .string r, .slice a1 n1 c1, .slice a2 n2 c2, .slice a3 n3 c3]) fun v hv => by
  simp only [List.mem_cons, List.not_mem_nil, or_false] at hv
  rcases hv with rfl | rfl | rfl | rfl | rfl | rfl | rfl | rfl <;> rfl
/-- what taking a reply answers -/
def PPost (w : World) (b c : Nat) (p : PR) (e : Ending) (w' : World) : Prop :=
  ∃ uh ue up, e = .returned (rpV p.1.1 uh ue up) ∧ Slc w' uh p.1.1.hs ∧ Nw w.heap.size w'.heap.size uh ∧ Slc w' ue p.1.1.ent ∧ Nw w.heap.size w'.heap.size ue ∧ Ps w' w.heap.size w'.heap.size up p.1.2 ∧ p.1.1.n = p.1.2.length ∧ Tk w' b c p.2 ∧ Keep (BC b c) w w'
set_option maxRecDepth 100000 in
set_option maxHeartbeats 4000000 in
theorem replyT_any {w : World} {b c : Nat} {s : TS} (h : Tk w b c s) (K : Nat) (hK : K ≤ 12) :
    Calls Tryz.prog 58 #[.pointer (some ⟨c, 0, none⟩), .int .i64 (K : Int)] w (PPost w b c (tReply K s)) := by
  obtain ⟨o1, ho1⟩ : ∃ o1, Hid (Obj.cells #[.int .i64 0, .int .i64 0, .int .i64 0, .int .i64 0, .string ⟨#[]⟩, .slice none 0 0, .slice none 0 0, .slice none 0 0] 45 = o1) := ⟨_, rfl⟩
  obtain ⟨o2, ho2⟩ : ∃ o2, Hid (Obj.cells (rpArr (tak c) Part.zero (.slice none 0 0) (.slice none 0 0) (.slice none 0 0) Part.zero (.slice none 0 0) (.slice none 0 0) (.slice none 0 0)) 114 = o2) := ⟨_, rfl⟩
  have z1 := size_alloc w o1
  have z2 := size_alloc (w.alloc o1) o2
  have bW : Below w.heap.size w ((w.alloc o1).alloc o2) := ((Below.refl _ _).alloc (Nat.le_refl _) _).alloc (by omega) _
  have hcl := h.lt
  have hbl := h.rd.lt
  have hQ : Ua ((w.alloc o1).alloc o2) (w.heap.size + 2) b c (w.heap.size + 1) ((Part.zero, []), s) (.slice none 0 0) (.slice none 0 0) (.slice none 0 0) :=
    ua_new (d := w.heap.size + 1) h bW (by rw [← ho2.out]; exact heap_alloc_at _ _ _ z1) (by omega)
  have i1 := payU_any hQ (by omega) K hK (fun g _ => by
    by_cases hg : g = .parts
    · subst hg
      exact fun w p th te tp h hB => u_parts h hB
    · exact uc_six g hg)
  have r0 : ((w.alloc o1).alloc o2).heap[w.heap.size]? = some (.cells #[.int .i64 0, .int .i64 0, .int .i64 0, .int .i64 0, .string ⟨#[]⟩, .slice none 0 0, .slice none 0 0, .slice none 0 0] 45 (0, 0)) := by
    rw [alloc_lt (by omega), ← ho1.out]; exact heap_alloc_new _ _
  have R0 := hid r0
  have BW := hid bW
  have HZ : Hid (((w.alloc o1).alloc o2).heap.size = w.heap.size + 2) := by show _ = _; omega
  rw [← ho1.out, ← ho2.out] at i1 R0 BW HZ
  simp only [tak, rpArr, Part.zero, sv] at i1
  generalize tReply K s = p at *
  clear h hQ bW z1 z2 r0 hK
  go_enter Tryz.func58, Tryz.ntmps58
  go_wp2_with (go_at_call 74; fail)
  go_at_call 74
  refine i1.mono ?_
  rintro e w2 ⟨rfl, th, te, tp, q1, q2⟩
  simp only [tak, rpArr, Part.zero, sv] at R0 BW HZ
  have r2 := (q2.block w.heap.size (by have := HZ.out; omega) (fun e => by rcases e with e | e | e <;> omega)).trans R0.out
  obtain ⟨p1, n1, rfl, _⟩ := id q1.s1
  obtain ⟨p2, n2, rfl, _⟩ := id q1.s2
  obtain ⟨p3, n3, rfl⟩ := q1.s3.shape
  have d0 : w2.cell? ⟨w.heap.size + 1, 9, none⟩ = some (.int .i64 p.1.1.status) := by rw [cell_of_row _ _ _ _ _ _ q1.row]; rfl
  have d1 : w2.cell? ⟨w.heap.size + 1, 10, none⟩ = some (.int .i64 p.1.1.size) := by rw [cell_of_row _ _ _ _ _ _ q1.row]; rfl
  have d2 : w2.cell? ⟨w.heap.size + 1, 11, none⟩ = some (.int .i64 p.1.1.a) := by rw [cell_of_row _ _ _ _ _ _ q1.row]; rfl
  have d3 : w2.cell? ⟨w.heap.size + 1, 12, none⟩ = some (.int .i64 p.1.1.b) := by rw [cell_of_row _ _ _ _ _ _ q1.row]; rfl
  have d4 : w2.cell? ⟨w.heap.size + 1, 13, none⟩ = some (.string ⟨p.1.1.root.toArray⟩) := by rw [cell_of_row _ _ _ _ _ _ q1.row]; rfl
  have d5 : w2.cell? ⟨w.heap.size + 1, 14, none⟩ = some (.slice p1 p.1.1.hs.length n1) := by rw [cell_of_row _ _ _ _ _ _ q1.row]; rfl
  have d6 : w2.cell? ⟨w.heap.size + 1, 15, none⟩ = some (.slice p2 p.1.1.ent.length n2) := by rw [cell_of_row _ _ _ _ _ _ q1.row]; rfl
  have d7 : w2.cell? ⟨w.heap.size + 1, 16, none⟩ = some (.slice p3 p.1.2.length n3) := by rw [cell_of_row _ _ _ _ _ _ q1.row]; rfl
  have Q1 := hid q1
  have Q2 := hid q2
  have R2 := hid r2
  clear q1 q2 r2
  go_wp2_with ((with_reducible show wpList _ _ _ (Oper.mk _ (Op.store 45 _ _) _ _ _ _ :: _) _ _); go_must (refine wpList_store_row rfl 45 _ _ rfl w.heap.size _ rfl rfl 45 _ R2.out (sizeRp' _ _ _ _ _ _ _ _) rfl (oneRp _ _ _ _ _ _ _ _ _ _ _ _ _ _) ?_))
  refine bodyPost_ret (results_cell_row rfl _ _ w.heap.size 45 _ (0, 0) _ rfl (setRow_heap _ _ _ _ _ _ R2.out) Tryz.underlying45 rfl sizeRp) rfl ?_
  generalize hcs : #[Value.int .i64 p.1.1.status, .int .i64 p.1.1.size, .int .i64 p.1.1.a, .int .i64 p.1.1.b, .string ⟨p.1.1.root.toArray⟩, .slice p1 p.1.1.hs.length n1, .slice p2 p.1.1.ent.length n2, .slice p3 p.1.2.length n3] = cs
  have k1 : Keep (fun k => k = w.heap.size) w2 (w2.setRow w.heap.size cs) := ⟨rfl, rfl, rfl, by rw [setRow_size]; exact Nat.le_refl _, fun k _ hk => setRow_other w2 _ k _ hk⟩
  have hS : ∀ k, w.heap.size + 2 ≤ k → k < w2.heap.size → ¬ k = w.heap.size := fun k k1 _ e => by omega
  have hle : w2.heap.size ≤ (w2.setRow w.heap.size cs).heap.size := k1.size
  refine ⟨.slice p1 p.1.1.hs.length n1, .slice p2 p.1.1.ent.length n2, .slice p3 p.1.2.length n3, by rw [rpV, ← hcs]; rfl, Q1.out.n1.slc Q1.out.s1 k1 hS, Q1.out.n1.mono (by omega) hle, Q1.out.n2.slc Q1.out.s2 k1 hS, Q1.out.n2.mono (by omega) hle, (Q1.out.s3.keep k1 hS).mono (by omega) hle, Q1.out.sn, Q1.out.tk.keep k1 (by omega) (by omega), ?_⟩
  refine ((Keep.ofBelow BW.out : Keep (BC b c) w _).trans Q2.out fun j hj e => ?_).trans k1 fun j hj e => ?_
  · rcases e with e | e | e
    · exact .inl e
    · exact .inr e
    · omega
  · omega
end Msg
end Go.Proofs.YtmhgdcfmfcjagaaGreatDoor
