import Derived.Test.YtmhgdcfmfcjagaaGreatDoorPkMU2
import Derived.Test.YtmhgdcfmfcjagaaGreatDoorPkMT6
namespace Go.Proofs.YtmhgdcfmfcjagaaGreatDoor
open Go.RowKit Cod
namespace Msg
structure EpI (w : World) (lo : Nat) (v : Value) (m : Ep) : Prop where
  s1 : Slc w m.h m.x.hs
  s2 : Slc w m.e m.x.ent
  s3 : ∃ p q, m.p = .slice p m.x.n q
  n1 : Nw lo w.heap.size m.h
  n2 : Nw lo w.heap.size m.e
  a1 : Apart m.h (OwnS v)
  a2 : Apart m.e (OwnS v)
structure Hl (w : World) (lo : Nat) (v : Value) (E : List Ep) : Prop where
  own : OwnM 8 w v E.length (epcs E)
  ge : ∀ k, v.ownBlock = some k → lo ≤ k
  el : ∀ m ∈ E, EpI w lo v m
theorem Hl.nil (w : World) (lo : Nat) : Hl w lo (.slice none 0 0) [] := ⟨OwnM.nil 8 w, fun k hk => (by cases hk), fun m hm => (by cases hm)⟩
theorem Hl.keep {S : Nat → Prop} {w w' : World} {lo : Nat} {v : Value} {E : List Ep} (h : Hl w lo v E) (hb : Keep S w w') (hS : ∀ k, lo ≤ k → k < w.heap.size → ¬ S k) : Hl w' lo v E :=
  ⟨h.own.keep hb (fun k hk => hS k (h.ge k hk) (h.own.lt k hk)), h.ge, fun m hm => by
    have g := h.el m hm
    exact ⟨g.n1.slc g.s1 hb (fun k k1 k2 => hS k k1 k2), g.n2.slc g.s2 hb (fun k k1 k2 => hS k k1 k2), g.s3, g.n1.mono (Nat.le_refl _) hb.size, g.n2.mono (Nat.le_refl _) hb.size, g.a1, g.a2⟩⟩
theorem Hl.ps {w : World} {lo : Nat} {v : Value} {E : List Ep} (h : Hl w lo v E) : Ps w lo w.heap.size v (E.map (·.x)) := by
  rcases h.own with ⟨rfl, hE, _⟩ | ⟨g, cap, rfl, h1, h2, h3, h4, h5, h6⟩
  · have : E = [] := List.length_eq_zero_iff.1 hE
    subst this
    exact .inl ⟨rfl, rfl⟩
  · refine .inr ⟨g, cap, by rw [List.length_map], h.ge g rfl, h6, h6, fun j x hx => ?_⟩
    rw [List.getElem?_map] at hx
    cases hm : E[j]? with
    | none => rw [hm] at hx; cases hx
    | some m =>
      rw [hm] at hx
      obtain rfl := Option.some.inj hx
      have gm := h.el m (List.mem_of_getElem? hm)
      have key : ∀ i u, i < 8 → (epc m)[i]? = some u → w.cell? ⟨g, j * 8 + i, none⟩ = some u := fun i u hi hu => by
        have := h4 (j * 8 + i) u (by rw [epcs_at E j m i hm hi]; exact hu)
        rwa [Nat.zero_add] at this
      exact ⟨m.h, m.e, m.p, key 0 _ (by omega) rfl, key 1 _ (by omega) rfl, key 2 _ (by omega) rfl, key 3 _ (by omega) rfl, key 4 _ (by omega) rfl, key 5 _ (by omega) rfl, key 6 _ (by omega) rfl, key 7 _ (by omega) rfl, gm.n1, gm.n2, gm.s1, gm.s2, gm.s3⟩
theorem infoRp : (Tryz.prog.info? 45).map (fun i => (i.zero, i.size, i.bytes)) = some (some (.agg #[.int .i64 0, .int .i64 0, .int .i64 0, .int .i64 0, .string ⟨#[]⟩, .slice none 0 0, .slice none 0 0, .slice none 0 0]), 8, 120) := by kernel_rfl
theorem Hl.push {w : World} {lo : Nat} {v : Value} {E : List Ep} (h : Hl w lo v E) (hlo : lo ≤ w.heap.size) (hE : E.length ≤ 2000000) (m : Ep) (hm : Slc w m.h m.x.hs ∧ Slc w m.e m.x.ent ∧ (∃ p q, m.p = .slice p m.x.n q) ∧ Nw lo w.heap.size m.h ∧ Nw lo w.heap.size m.e) (ha1 : Apart m.h (OwnS v)) (ha2 : Apart m.e (OwnS v)) :
    ∃ v' w', (Builtin.append_ #[43, 43] 43 #[v, .slice (some ⟨w.heap.size, 0, none⟩) 1 1]).run Tryz.prog (w.alloc (.cells (epc m).toArray 45)) = .ok v' w' ∧ Hl w' lo v' (E ++ [m]) ∧ Keep (OwnS v) w w' := by
  obtain ⟨p1, q1, e1, _⟩ := id hm.1
  obtain ⟨p2, q2, e2, _⟩ := id hm.2.1
  obtain ⟨p3, q3, e3⟩ := id hm.2.2.1
  obtain ⟨v', w', r1, r2, r3⟩ := append_oneM 43 45 (.agg #[.int .i64 0, .int .i64 0, .int .i64 0, .int .i64 0, .string ⟨#[]⟩, .slice none 0 0, .slice none 0 0, .slice none 0 0]) 120 (by omega) (by kernel_rfl) infoRp rfl w v E.length (epcs E) (epc m) rfl (fun u hu => by
    simp only [epc, List.mem_cons, List.not_mem_nil, or_false] at hu
    rcases hu with rfl | rfl | rfl | rfl | rfl | rfl | rfl | rfl
    · rfl
    · rfl
    · rfl
    · rfl
    · rfl
    · rw [e1]; rfl
    · rw [e2]; rfl
    · rw [e3]; rfl) h.own hE
  have kp : Keep (OwnS v) w w' := r3.keepG
  have keepT : ∀ (u : Value) (ps : List (List UInt8)), Slc w u ps → Apart u (OwnS v) → Slc w' u ps := fun u ps hs ha => hs.keep kp ha
  have apv : ∀ u, Nw lo w.heap.size u → Apart u (OwnS v) → Apart u (OwnS v') := fun u hn ha x n c e h0 hk => by
    rcases r3.alt with g | ⟨g, _⟩
    · exact ha x n c e h0 (by show v.ownBlock = _; rw [← g]; exact hk)
    · have := g _ hk
      have := (hn x n c e).2
      omega
  refine ⟨v', w', r1, ⟨by rw [List.length_append, epcs_snoc]; exact r2, fun k hk => ?_, fun m' hm' => ?_⟩, kp⟩
  · rcases r3.alt with g | ⟨g, _⟩
    · exact h.ge k (by rw [← g]; exact hk)
    · have := g k hk; omega
  · rcases List.mem_append.1 hm' with hm' | hm'
    · have g := h.el m' hm'
      exact ⟨keepT _ _ g.s1 g.a1, keepT _ _ g.s2 g.a2, g.s3, g.n1.mono (Nat.le_refl _) kp.size, g.n2.mono (Nat.le_refl _) kp.size, apv _ g.n1 g.a1, apv _ g.n2 g.a2⟩
    · rw [List.mem_singleton] at hm'
      subst hm'
      exact ⟨keepT _ _ hm.1 ha1, keepT _ _ hm.2.1 ha2, hm.2.2.1, hm.2.2.2.1.mono (Nat.le_refl _) kp.size, hm.2.2.2.2.mono (Nat.le_refl _) kp.size, apv _ hm.2.2.2.1 ha1, apv _ hm.2.2.2.2 ha2⟩
structure HlO (w : World) (lo : Nat) (v : Value) (E : List Ep) : Prop where
  z : E = [] → v = .slice none 0 0
  el : ∀ m ∈ E, EpO w lo m
  nd : (bks (v :: eps E)).Nodup
theorem HlO.nil (w : World) (lo : Nat) : HlO w lo (.slice none 0 0) [] := ⟨fun _ => rfl, fun m hm => (by cases hm), (List.nodup_nil : ([] : List Nat).Nodup)⟩
theorem HlO.keep {S : Nat → Prop} {w w' : World} {lo : Nat} {v : Value} {E : List Ep} (h : HlO w lo v E) (hb : Keep S w w') (hS : ∀ k, lo ≤ k → k < w.heap.size → ¬ S k) : HlO w' lo v E :=
  ⟨h.z, fun m hm => (h.el m hm).keep hb hS, h.nd⟩
theorem Hl.pso {w : World} {lo : Nat} {v : Value} {E : List Ep} (h : Hl w lo v E) (g : HlO w lo v E) : PsO w lo v (E.map (·.x)) E :=
  ⟨h.own, h.ge, g.el, rfl, fun e => g.z (by simpa using e), g.nd⟩
theorem HlO.push {w : World} {lo W : Nat} {v : Value} {E : List Ep} (h : HlO w lo v E) (ho : OwnM 8 w v E.length (epcs E)) (hE : E.length ≤ 2000000) (m : Ep) (hm : EpO w lo m) (hd : ∀ k, m.h.ownBlock = some k → m.e.ownBlock ≠ some k)
    (hW : ∀ k, k ∈ bks (v :: eps E) → k < W) (h1 : ∀ k, m.h.ownBlock = some k → W ≤ k) (h2 : ∀ k, m.e.ownBlock = some k → W ≤ k) :
    ∃ v' w', (Builtin.append_ #[43, 43] 43 #[v, .slice (some ⟨w.heap.size, 0, none⟩) 1 1]).run Tryz.prog (w.alloc (.cells (epc m).toArray 45)) = .ok v' w' ∧ HlO w' lo v' (E ++ [m]) := by
  obtain ⟨p1, q1, e1⟩ := hm.o1.shape
  obtain ⟨p2, q2, e2⟩ := hm.o2.shape
  have e3 := hm.o3
  obtain ⟨v', w', r1, r2, r3⟩ := append_oneM 43 45 (.agg #[.int .i64 0, .int .i64 0, .int .i64 0, .int .i64 0, .string ⟨#[]⟩, .slice none 0 0, .slice none 0 0, .slice none 0 0]) 120 (by omega) (by kernel_rfl) infoRp rfl w v E.length (epcs E) (epc m) rfl (fun u hu => by
    simp only [epc, List.mem_cons, List.not_mem_nil, or_false] at hu
    rcases hu with rfl | rfl | rfl | rfl | rfl | rfl | rfl | rfl
    · rfl
    · rfl
    · rfl
    · rfl
    · rfl
    · rw [e1]; rfl
    · rw [e2]; rfl
    · rw [e3]; rfl) ho hE
  have nd0 : (bks ((v :: eps E) ++ [m.h, m.e])).Nodup := by
    refine nd_app h.nd ?_ (fun k hk hk2 => ?_)
    · refine nd_cons.2 ⟨?_, fun k hk hk2 => ?_⟩
      · cases hq : m.e.ownBlock with
        | none => rw [bks_none hq]; exact List.nodup_nil
        | some j => rw [bks_some hq]; simp
      · obtain ⟨u, hu, hb⟩ := mem_bks.1 hk2
        rw [List.mem_singleton] at hu
        subst hu
        exact hd k hk hb
    · have g := hW k hk
      obtain ⟨u, hu, hb⟩ := mem_bks.1 hk2
      simp only [List.mem_cons, List.not_mem_nil, or_false] at hu
      rcases hu with rfl | rfl
      · have := h1 k hb; omega
      · have := h2 k hb; omega
  rw [List.cons_append, ← eps_snoc] at nd0
  have lt : ∀ k, k ∈ bks (eps (E ++ [m])) → k < w.heap.size := fun k hk => by
    obtain ⟨u, hu, hb⟩ := mem_bks.1 hk
    obtain ⟨m', hm', hu⟩ := mem_eps.1 hu
    have hO : EpO w lo m' := by
      rcases List.mem_append.1 hm' with hm' | hm'
      · exact h.el m' hm'
      · rw [List.mem_singleton] at hm'; subst hm'; exact hm
    rcases hu with rfl | rfl
    · exact own_lt hO.o1 k hb
    · exact own_lt hO.o2 k hb
  obtain ⟨n1, n2⟩ := nd_cons.1 nd0
  have st : ∀ m', m' ∈ E ++ [m] → EpO w lo m' → EpO w' lo m' := fun m' hm' g => by
    have nb : ∀ u, u = m'.h ∨ u = m'.e → ∀ k, u.ownBlock = some k → v.ownBlock ≠ some k := fun u hu k hk hv => n2 k hv (mem_bks.2 ⟨u, mem_eps.2 ⟨m', hm', hu⟩, hk⟩)
    exact ⟨g.o1.kept r3.size (fun k hk => r3.old k (own_lt g.o1 k hk) (nb _ (.inl rfl) k hk)), g.o2.kept r3.size (fun k hk => r3.old k (own_lt g.o2 k hk) (nb _ (.inr rfl) k hk)), g.o3⟩
  refine ⟨v', w', r1, ⟨fun e => by simp at e, fun m' hm' => ?_, ?_⟩⟩
  · refine st m' hm' ?_
    rcases List.mem_append.1 hm' with hm' | hm'
    · exact h.el m' hm'
    · rw [List.mem_singleton] at hm'; subst hm'; exact hm
  · refine nd_cons.2 ⟨n1, fun k hk hm2 => ?_⟩
    rcases r3.alt with g | ⟨g, _⟩
    · exact n2 k (by rw [← g]; exact hk) hm2
    · have := g k hk
      have := lt k hm2
      omega
theorem tTail_nil (s : TS) : (tTail 0 tForm s).1.2 = [] := by
  rw [tTail]
  split
  · rw [tForm]
    split
    · split <;> rfl
    · rfl
  · rfl
structure Pl (w wr : World) (b c n : Nat) (R : List Part × TS) (v : Value) (k : Nat) (E : List Ep) (s : TS) : Prop where
  tk : Tk wr b c s
  kp : Keep (BC b c) w wr
  gl : Hl wr w.heap.size v E
  go : HlO wr w.heap.size v E
  ln : E.length = k
  eq : tManyP (n - k) (E.map (·.x)) s = R
theorem ua_new {w W : World} {b c d : Nat} {s : TS} (h : Tk w b c s) (bW : Below w.heap.size w W) (hr : W.heap[d]? = some (.cells (rpArr (tak c) Part.zero (.slice none 0 0) (.slice none 0 0) (.slice none 0 0) Part.zero (.slice none 0 0) (.slice none 0 0) (.slice none 0 0)) 114 (0, 0))) (hd : w.heap.size ≤ d) :
    Ua W (d + 1) b c d ((Part.zero, []), s) (.slice none 0 0) (.slice none 0 0) (.slice none 0 0) := by
  have hcl := h.lt
  have hbl := h.rd.lt
  exact ⟨h.below bW, hr, by omega, by omega, by omega, by omega, by omega, nilT _, Nw.nil _ _, nilT _, Nw.nil _ _, .inl ⟨rfl, rfl⟩, rfl, RpO.nil _ _ _ rfl rfl rfl⟩
set_option maxRecDepth 100000 in
set_option maxHeartbeats 4000000 in
theorem takeParts_any {b c : Nat} {s : TS} (z : Value) (w : World) (h : Tk w b c s) :
    Calls Tryz.prog 177 #[.pointer (some ⟨c, 0, none⟩), z] w fun e w' => TkL w b c (tParts s).2 e w' fun v => Ps w' w.heap.size w'.heap.size v (tParts s).1 ∧ ∃ E, PsO w' w.heap.size v (tParts s).1 E := by
  have i1 := count_any w h
  have hmx := tMany_max s
  have e1 : tParts s = tManyP (tCount s).1 [] (tCount s).2 := rfl
  rw [e1]
  generalize (tCount s).1 = n at *
  generalize (tCount s).2 = s1 at *
  have hbl := h.rd.lt
  have hcl := h.lt
  clear h e1
  obtain ⟨R, hR⟩ : ∃ R, Hid (tManyP n [] s1 = R) := ⟨_, rfl⟩
  rw [hR.out]
  go_enter Tryz.func177, Tryz.ntmps177
  go_wp2_with (go_at_call 174; refine i1.mono ?_; rintro e w1 ⟨rfl, h1, h2⟩; have H1 := hid h1; have H2 := hid h2; clear h1 h2)
  go_loopw [5, 9] (fun l i w' => ∃ (k : Nat) (E : List Ep) (s' : TS), k ≤ n ∧ i = .int .i64 k ∧ Hid (Pl w w' b c n R l k E s')) (fun _ i _ => n - (intOf i).toNat)
  case atStart => exact ⟨0, [], s1, by omega, rfl, ⟨H1.out, H2.out, Hl.nil _ _, HlO.nil _ _, rfl, hR.out⟩⟩
  case round =>
    obtain ⟨k, E, s', hk, rfl, hM⟩ := hrel
    by_cases hlt : k < n
    · have hlt' : (k : Int) < (n : Int) := by omega
      have bA := (Below.refl wr.heap.size wr).alloc (Nat.le_refl _) (.cells (rpArr (tak c) Part.zero (.slice none 0 0) (.slice none 0 0) (.slice none 0 0) Part.zero (.slice none 0 0) (.slice none 0 0) (.slice none 0 0)) 114)
      have zA := size_alloc wr (.cells (rpArr (tak c) Part.zero (.slice none 0 0) (.slice none 0 0) (.slice none 0 0) Part.zero (.slice none 0 0) (.slice none 0 0) (.slice none 0 0)) 114)
      have hU := ua_new (d := wr.heap.size) hM.out.tk bA (heap_alloc_new _ _) (Nat.le_refl _)
      have i2 := partT_any hU (by omega)
      have BA := hid bA
      have ZA := hid zA
      simp only [tak, rpArr, Part.zero, sv] at i2 BA ZA
      clear bA zA hU
      go_wp2_with (go_at_call 162; fail)
      go_at_call 162
      refine i2.mono ?_
      rintro e w2 ⟨rfl, th, te, tp, g1, g2⟩
      obtain ⟨x, hx⟩ : ∃ x, Hid ((tPart s').1 = x) := ⟨_, rfl⟩
      obtain ⟨s2, hs2⟩ : ∃ s2, Hid ((tPart s').2 = s2) := ⟨_, rfl⟩
      have hx' : (tTail 0 tForm s').1.1 = x := hx.out
      have hs' : (tTail 0 tForm s').2 = s2 := hs2.out
      have g0 := tTail_nil s'
      generalize tTail 0 tForm s' = P at *
      have k2 : Keep (DSet b c wr.heap.size) wr w2 := (Keep.ofBelow BA.out : Keep (DSet b c wr.heap.size) wr _).trans g2 (fun _ _ e => e)
      have hsz : w.heap.size ≤ wr.heap.size := hM.out.kp.size
      have hszz : wr.heap.size + 1 ≤ w2.heap.size := by have := g2.size; have := ZA.out; omega
      have hGl := hM.out.gl.keep k2 (fun j hj hj2 e => by rcases e with e | e | e <;> omega)
      have hvl := hM.out.gl.own.lt
      have hvg := hM.out.gl.ge
      have hln := hM.out.ln
      have ap : ∀ u, Nw (wr.heap.size + 1) w2.heap.size u → Apart u (OwnS u5) := fun u hn y m cc e _ hk => by
        have := hvl _ hk
        have := (hn y m cc e).1
        omega
      have hshape : ∃ p q, tp = .slice p x.n q := by
        obtain ⟨p, q, e⟩ := g1.s3.shape
        exact ⟨p, q, by rw [e, ← g1.sn, hx']⟩
      obtain ⟨E9, o1, o2, o3, o4⟩ := id g1.ow
      rw [hx'] at o1 o2
      have hEm : EpO w2 (wr.heap.size + 1) ⟨x, th, te, tp⟩ := ⟨o1, o2, o3.z g0⟩
      have hD : ∀ k, th.ownBlock = some k → te.ownBlock ≠ some k := fun k hk hk2 => (nd_cons.1 o4).2 k hk (mem_bks.2 ⟨te, by simp, hk2⟩)
      have hGo := hM.out.go.keep k2 (fun j hj hj2 e => by rcases e with e | e | e <;> omega)
      have hIn := (hM.out.gl.pso hM.out.go).in
      obtain ⟨v9, w9, r9, r8⟩ := hGo.push (W := wr.heap.size) hGl.own (by omega) ⟨x, th, te, tp⟩ (hEm.lower (by omega)) hD (fun k hk => (hIn k hk).2) (fun k hk => by have := hEm.o1.ge k hk; omega) (fun k hk => by have := hEm.o2.ge k hk; omega)
      clear o1 o2 o3 o4 g0 hD hIn hEm
      obtain ⟨p1, q1, e1, _⟩ := id g1.s1
      obtain ⟨p2, q2, e2, _⟩ := id g1.s2
      obtain ⟨p3, q3, e3⟩ := id hshape
      have t1 := g1.s1
      have t2 := g1.s2
      rw [hx'] at t1 t2 e1 e2
      subst e1 e2 e3
      obtain ⟨v', w3, r1, r2, r3⟩ := hGl.push (by omega) (by omega) ⟨x, .slice p1 x.hs.length q1, .slice p2 x.ent.length q2, .slice p3 x.n q3⟩ ⟨t1, t2, hshape, g1.n1.mono (by omega) (Nat.le_refl _), g1.n2.mono (by omega) (Nat.le_refl _)⟩ (ap _ g1.n1) (ap _ g1.n2)
      rw [r1] at r9
      obtain ⟨rfl, rfl⟩ : v' = v9 ∧ w3 = w9 := by injection r9 with a b; exact ⟨a, b⟩
      clear r9
      have hc : (Builtin.append_ #[43, 43] 43 #[u5, .slice (some ⟨w2.heap.size, 0, none⟩) 1 1]).run Tryz.prog (w2.alloc (.cells #[.int .i64 x.status, .int .i64 x.size, .int .i64 x.a, .int .i64 x.b, .string ⟨x.root.toArray⟩, .slice p1 x.hs.length q1, .slice p2 x.ent.length q2, .slice p3 x.n q3] 45)) = .ok v' w3 := r1
      have tk2 : Tk w2 b c s2 := hs' ▸ g1.tk
      have N : Hid (Pl w w3 b c n R v' (k + 1) (E ++ [⟨x, .slice p1 x.hs.length q1, .slice p2 x.ent.length q2, .slice p3 x.n q3⟩]) s2) := by
        refine ⟨tk2.keep r3 (fun e => by have := hvg _ e; omega) (fun e => by have := hvg _ e; omega), (hM.out.kp.trans (T := DSet b c wr.heap.size) k2 (fun j hj e => by
          rcases e with e | e | e
          · exact .inl e
          · exact .inr e
          · omega)).trans r3 (fun j hj e => by have := hvg _ e; omega), r2, r8, by rw [List.length_append, hln]; rfl, ?_⟩
        have := hM.out.eq
        rw [show n - k = (n - (k + 1)) + 1 from by omega, tManyP, hx.out, hs2.out] at this
        rw [List.map_append]; exact this
      have d0 : w2.cell? ⟨wr.heap.size, 9, none⟩ = some (.int .i64 x.status) := by rw [cell_of_row _ _ _ _ _ _ g1.row, ← hx']; rfl
      have d1 : w2.cell? ⟨wr.heap.size, 10, none⟩ = some (.int .i64 x.size) := by rw [cell_of_row _ _ _ _ _ _ g1.row, ← hx']; rfl
      have d2 : w2.cell? ⟨wr.heap.size, 11, none⟩ = some (.int .i64 x.a) := by rw [cell_of_row _ _ _ _ _ _ g1.row, ← hx']; rfl
      have d3 : w2.cell? ⟨wr.heap.size, 12, none⟩ = some (.int .i64 x.b) := by rw [cell_of_row _ _ _ _ _ _ g1.row, ← hx']; rfl
      have d4 : w2.cell? ⟨wr.heap.size, 13, none⟩ = some (.string ⟨x.root.toArray⟩) := by rw [cell_of_row _ _ _ _ _ _ g1.row, ← hx']; rfl
      have d5 : w2.cell? ⟨wr.heap.size, 14, none⟩ = some (.slice p1 x.hs.length q1) := by rw [cell_of_row _ _ _ _ _ _ g1.row]; rfl
      have d6 : w2.cell? ⟨wr.heap.size, 15, none⟩ = some (.slice p2 x.ent.length q2) := by rw [cell_of_row _ _ _ _ _ _ g1.row]; rfl
      have d7 : w2.cell? ⟨wr.heap.size, 16, none⟩ = some (.slice p3 x.n q3) := by rw [cell_of_row _ _ _ _ _ _ g1.row]; rfl
      clear g1 g2 k2 r1 r2 r3 r8 hshape hGl hGo hvl hvg ap i2 t1 t2 tk2 hx' hs' BA ZA hszz
      go_wp2_with (at_builtin; go_must (refine Lib.wpList_append_run _ rfl _ _ 43 43 rfl _ _ rfl rfl _ _ hc ?_))
      exact ⟨⟨k + 1, _, s2, by omega, by go_num, N⟩, by simp [intOf]; omega⟩
    · obtain rfl : k = n := by omega
      have hE := hM.out.eq
      rw [Nat.sub_self, tManyP] at hE
      obtain ⟨p, q, hu, _, _⟩ := hM.out.gl.own.shape
      subst hu
      subst hE
      go_wp2
      go_ret
      exact ⟨_, rfl, ⟨hM.out.gl.ps, _, hM.out.gl.pso hM.out.go⟩, fun y m cc e => (by
        have ha := hM.out.gl
        cases e
        exact ⟨ha.ge _ rfl, ha.own.lt _ rfl⟩), hM.out.tk, hM.out.kp⟩
end Msg
end Go.Proofs.YtmhgdcfmfcjagaaGreatDoor

namespace Go.Proofs.YtmhgdcfmfcjagaaGreatDoor
open Go.RowKit Cod
namespace Msg
set_option maxRecDepth 100000 in
set_option maxHeartbeats 2000000 in
theorem u_parts {w : World} {B b c d : Nat} {p : PR} {th te tp : Value} (h : Ua w B b c d p th te tp) (hB : B ≤ w.heap.size) :
    Calls Tryz.prog 120 #[.pointer (some ⟨d, 0, none⟩)] w fun e w' => e = .returned (.tuple #[]) ∧ UPost w B b c d (tFr tParts .parts p) w' := by
  have c0 : w.cell? ⟨d, 0, none⟩ = some (tak c) := by rw [cell_of_row _ _ _ _ _ _ h.row]; rfl
  have c4 : w.cell? ⟨d, 8, none⟩ = some (.slice none 0 0) := by rw [cell_of_row _ _ _ _ _ _ h.row]; rfl
  have i1 := takeParts_any (.slice none 0 0) w.drew h.tk.drew
  rw [tak] at c0
  have mm := m_taking_parts ⟨c, 0, none⟩
  have HQ := hid h
  have HB := hid hB
  clear h hB
  go_enter Tryz.func120, Tryz.ntmps120
  go_region_held3 (fun w' => w'.cell? ⟨d, 0, none⟩ = some (.iface 127 (.pointer (some ⟨c, 0, none⟩))) ∧ w'.cell? ⟨d, 8, none⟩ = some (.slice none 0 0)) (first | exact ⟨c0, c4⟩ | exact S2 | exact S3) (first | (go_at_call 177; (with_reducible refine i1.mono ?_); rintro e w2 ⟨v, rfl, ⟨hq, ho⟩, hn, ht, hk⟩; obtain ⟨p1, q1, rfl⟩ := hq.shape; have HO := hid ho; clear ho; have HV := hid (hq.mono HB.out (Nat.le_refl _)); clear hq hn; have hk := Keep.drew' hk; have hrow := HQ.out.row2 hk; have g0 : w2.frozen? ⟨d, 16, none⟩ = false := frozen_of_row _ _ _ _ _ hrow; have e0 : w2.cell? ⟨d, 16, none⟩ = some tp := (by rw [cell_of_row _ _ _ _ _ _ hrow]; rfl); have S2 : w2.cell? ⟨d, 0, none⟩ = some (tak c) ∧ w2.cell? ⟨d, 8, none⟩ = some (.slice none 0 0) := ⟨by rw [cell_of_row _ _ _ _ _ _ hrow]; rfl, by rw [cell_of_row _ _ _ _ _ _ hrow]; rfl⟩; have hrow3 := row_set 16 (.slice p1 (tParts p.2).1.length q1) hrow rfl; have S3 : (w2.setCell ⟨d, 16, none⟩ (.slice p1 (tParts p.2).1.length q1)).cell? ⟨d, 0, none⟩ = some (tak c) ∧ (w2.setCell ⟨d, 16, none⟩ (.slice p1 (tParts p.2).1.length q1)).cell? ⟨d, 8, none⟩ = some (.slice none 0 0) := ⟨by rw [cell_of_row _ _ _ _ _ _ hrow3]; rfl, by rw [cell_of_row _ _ _ _ _ _ hrow3]; rfl⟩; rw [tak] at S2 S3; have HK := hid hk; have HT := hid ht; clear hk ht hrow hrow3))
  go_end0
  exact ⟨rfl, HQ.out.put HK.out (tFr tParts .parts p) HT.out 16 _ _ _ _ rfl (HQ.out.o1 HK.out) (HQ.out.o2 HK.out) HV.out rfl (by
    obtain ⟨E, hE⟩ := HO.out
    exact HQ.out.ow.setP HK.out (fun _ k1 _ => Ra.nS HQ.out.hb HQ.out.hc k1) HB.out hE rfl rfl rfl)⟩
theorem sizeRp : (Tryz.prog.info? 45).map (·.size) = some 8 := by kernel_rfl
theorem sizeRp' (a b c d e f g h : Value) : (Tryz.prog.info? 45).map (·.size) = some #[a, b, c, d, e, f, g, h].size := sizeRp
theorem oneRp (b1 b2 b3 b4 : Int) (r : ByteArray) (a1 a2 a3 : Option Addr) (n1 n2 n3 c1 c2 c3 : Nat) : (#[Value.int .i64 b1, .int .i64 b2, .int .i64 b3, .int .i64 b4, .string r, .slice a1 n1 c1, .slice a2 n2 c2, .slice a3 n3 c3].all (·.oneCell')) = true := all_oneCell_toArray (cs := [Value.int .i64 b1, .int .i64 b2, .int .i64 b3, .int .i64 b4, .string r, .slice a1 n1 c1, .slice a2 n2 c2, .slice a3 n3 c3]) fun v hv => by
  simp only [List.mem_cons, List.not_mem_nil, or_false] at hv
  rcases hv with rfl | rfl | rfl | rfl | rfl | rfl | rfl | rfl <;> rfl
def PPost (w : World) (b c : Nat) (p : PR) (e : Ending) (w' : World) : Prop :=
  ∃ uh ue up, e = .returned (rpV p.1.1 uh ue up) ∧ Slc w' uh p.1.1.hs ∧ Nw w.heap.size w'.heap.size uh ∧ Slc w' ue p.1.1.ent ∧ Nw w.heap.size w'.heap.size ue ∧ Ps w' w.heap.size w'.heap.size up p.1.2 ∧ p.1.1.n = p.1.2.length ∧ Tk w' b c p.2 ∧ Keep (BC b c) w w' ∧ RpO w' w.heap.size p.1 uh ue up
set_option maxRecDepth 100000 in
set_option maxHeartbeats 4000000 in
theorem replyT_any {w : World} {b c : Nat} {s : TS} (h : Tk w b c s) (K : Nat) (hK : K ≤ 12) :
    Calls Tryz.prog 58 #[.pointer (some ⟨c, 0, none⟩), .int .i64 (K : Int)] w (PPost w b c (tReply K s)) := by
  obtain ⟨o1, ho1⟩ : ∃ o1, Hid (Obj.cells #[.int .i64 0, .int .i64 0, .int .i64 0, .int .i64 0, .string ⟨#[]⟩, .slice none 0 0, .slice none 0 0, .slice none 0 0] 45 = o1) := ⟨_, rfl⟩
  obtain ⟨o2, ho2⟩ : ∃ o2, Hid (Obj.cells (rpArr (tak c) Part.zero (.slice none 0 0) (.slice none 0 0) (.slice none 0 0) Part.zero (.slice none 0 0) (.slice none 0 0) (.slice none 0 0)) 114 = o2) := ⟨_, rfl⟩
  have z1 := size_alloc w o1
  have z2 := size_alloc (w.alloc o1) o2
  have bW : Below w.heap.size w ((w.alloc o1).alloc o2) := ((Below.refl _ _).alloc (Nat.le_refl _) _).alloc (by omega) _
  have hcl := h.lt
  have hbl := h.rd.lt
  have hQ : Ua ((w.alloc o1).alloc o2) (w.heap.size + 2) b c (w.heap.size + 1) ((Part.zero, []), s) (.slice none 0 0) (.slice none 0 0) (.slice none 0 0) :=
    ua_new (d := w.heap.size + 1) h bW (by rw [← ho2.out]; exact heap_alloc_at _ _ _ z1) (by omega)
  have i1 := payU_any hQ (by omega) K hK (fun g _ => by
    by_cases hg : g = .parts
    · subst hg
      exact fun w p th te tp h hB => u_parts h hB
    · exact uc_six g hg)
  have r0 : ((w.alloc o1).alloc o2).heap[w.heap.size]? = some (.cells #[.int .i64 0, .int .i64 0, .int .i64 0, .int .i64 0, .string ⟨#[]⟩, .slice none 0 0, .slice none 0 0, .slice none 0 0] 45 (0, 0)) := by
    rw [alloc_lt (by omega), ← ho1.out]; exact heap_alloc_new _ _
  have R0 := hid r0
  have BW := hid bW
  have HZ : Hid (((w.alloc o1).alloc o2).heap.size = w.heap.size + 2) := by show _ = _; omega
  rw [← ho1.out, ← ho2.out] at i1 R0 BW HZ
  simp only [tak, rpArr, Part.zero, sv] at i1
  generalize tReply K s = p at *
  clear h hQ bW z1 z2 r0 hK
  go_enter Tryz.func58, Tryz.ntmps58
  go_wp2_with (go_at_call 74; fail)
  go_at_call 74
  refine i1.mono ?_
  rintro e w2 ⟨rfl, th, te, tp, q1, q2⟩
  simp only [tak, rpArr, Part.zero, sv] at R0 BW HZ
  have r2 := (q2.block w.heap.size (by have := HZ.out; omega) (fun e => by rcases e with e | e | e <;> omega)).trans R0.out
  obtain ⟨p1, n1, rfl, _⟩ := id q1.s1
  obtain ⟨p2, n2, rfl, _⟩ := id q1.s2
  obtain ⟨p3, n3, rfl⟩ := q1.s3.shape
  have d0 : w2.cell? ⟨w.heap.size + 1, 9, none⟩ = some (.int .i64 p.1.1.status) := by rw [cell_of_row _ _ _ _ _ _ q1.row]; rfl
  have d1 : w2.cell? ⟨w.heap.size + 1, 10, none⟩ = some (.int .i64 p.1.1.size) := by rw [cell_of_row _ _ _ _ _ _ q1.row]; rfl
  have d2 : w2.cell? ⟨w.heap.size + 1, 11, none⟩ = some (.int .i64 p.1.1.a) := by rw [cell_of_row _ _ _ _ _ _ q1.row]; rfl
  have d3 : w2.cell? ⟨w.heap.size + 1, 12, none⟩ = some (.int .i64 p.1.1.b) := by rw [cell_of_row _ _ _ _ _ _ q1.row]; rfl
  have d4 : w2.cell? ⟨w.heap.size + 1, 13, none⟩ = some (.string ⟨p.1.1.root.toArray⟩) := by rw [cell_of_row _ _ _ _ _ _ q1.row]; rfl
  have d5 : w2.cell? ⟨w.heap.size + 1, 14, none⟩ = some (.slice p1 p.1.1.hs.length n1) := by rw [cell_of_row _ _ _ _ _ _ q1.row]; rfl
  have d6 : w2.cell? ⟨w.heap.size + 1, 15, none⟩ = some (.slice p2 p.1.1.ent.length n2) := by rw [cell_of_row _ _ _ _ _ _ q1.row]; rfl
  have d7 : w2.cell? ⟨w.heap.size + 1, 16, none⟩ = some (.slice p3 p.1.2.length n3) := by rw [cell_of_row _ _ _ _ _ _ q1.row]; rfl
  have Q1 := hid q1
  have Q2 := hid q2
  have R2 := hid r2
  clear q1 q2 r2
  go_wp2_with ((with_reducible show wpList _ _ _ (Oper.mk _ (Op.store 45 _ _) _ _ _ _ :: _) _ _); go_must (refine wpList_store_row rfl 45 _ _ rfl w.heap.size _ rfl rfl 45 _ R2.out (sizeRp' _ _ _ _ _ _ _ _) rfl (oneRp _ _ _ _ _ _ _ _ _ _ _ _ _ _) ?_))
  refine bodyPost_ret (results_cell_row rfl _ _ w.heap.size 45 _ (0, 0) _ rfl (setRow_heap _ _ _ _ _ _ R2.out) Tryz.underlying45 rfl sizeRp) rfl ?_
  generalize hcs : #[Value.int .i64 p.1.1.status, .int .i64 p.1.1.size, .int .i64 p.1.1.a, .int .i64 p.1.1.b, .string ⟨p.1.1.root.toArray⟩, .slice p1 p.1.1.hs.length n1, .slice p2 p.1.1.ent.length n2, .slice p3 p.1.2.length n3] = cs
  have k1 : Keep (fun k => k = w.heap.size) w2 (w2.setRow w.heap.size cs) := ⟨rfl, rfl, rfl, by rw [setRow_size]; exact Nat.le_refl _, fun k _ hk => setRow_other w2 _ k _ hk⟩
  have hS : ∀ k, w.heap.size + 2 ≤ k → k < w2.heap.size → ¬ k = w.heap.size := fun k k1 _ e => by omega
  have hle : w2.heap.size ≤ (w2.setRow w.heap.size cs).heap.size := k1.size
  refine ⟨.slice p1 p.1.1.hs.length n1, .slice p2 p.1.1.ent.length n2, .slice p3 p.1.2.length n3, by rw [rpV, ← hcs]; rfl, Q1.out.n1.slc Q1.out.s1 k1 hS, Q1.out.n1.mono (by omega) hle, Q1.out.n2.slc Q1.out.s2 k1 hS, Q1.out.n2.mono (by omega) hle, (Q1.out.s3.keep k1 hS).mono (by omega) hle, Q1.out.sn, Q1.out.tk.keep k1 (by omega) (by omega), ?_, (Q1.out.ow.keep k1 hS).lower (by omega)⟩
  refine ((Keep.ofBelow BW.out : Keep (BC b c) w _).trans Q2.out fun j hj e => ?_).trans k1 fun j hj e => ?_
  · rcases e with e | e | e
    · exact .inl e
    · exact .inr e
    · omega
  · omega
end Msg
end Go.Proofs.YtmhgdcfmfcjagaaGreatDoor

namespace Go.Proofs.YtmhgdcfmfcjagaaGreatDoor
open Go.RowKit Cod
namespace Msg
abbrev rp0 : Value := .agg #[.int .i64 0, .int .i64 0, .int .i64 0, .int .i64 0, .string ⟨#[]⟩, .slice none 0 0, .slice none 0 0, .slice none 0 0]
def GotR (w : World) (lo : Nat) (x : Part) (l : List Part) (ul ue ua : Value) : Prop :=
  Slc w ul x.hs ∧ Nw lo w.heap.size ul ∧ Slc w ue x.ent ∧ Nw lo w.heap.size ue ∧ Ps w lo w.heap.size ua l ∧ x.n = l.length
def DOkR (q : PR) (r : List UInt8) (w : World) (e : Ending) (w' : World) : Prop :=
  if (decide (q.2.1.done = 0) && !q.2.2) = true then ∃ ul ue ua, e = .returned (.tuple #[rpV q.1.1 ul ue ua, sv r, .int .i64 0]) ∧ GotR w' w.heap.size q.1.1 q.1.2 ul ue ua
  else e = .returned (.tuple #[rp0, sv [], .int .i64 173])
def DPostR (K : Nat) (s : List UInt8) (w : World) (e : Ending) (w' : World) : Prop :=
  Below w.heap.size w w' ∧ match rdText s 1048576 with
  | .bad k => e = .returned (.tuple #[rp0, sv [], .int .i64 (unfr k)])
  | .good p r => DOkR (tReply K (⟨p, 0, 0⟩, false)) r w e w'
def OwdR (w w' : World) (e : Ending) : Prop := ∃ x l uh ue up rest er, e = .returned (.tuple #[rpV x uh ue up, rest, er]) ∧ RpO w' w.heap.size (x, l) uh ue up
theorem owdR_zero (w w' : World) (rest er : Value) : OwdR w w' (.returned (.tuple #[rp0, rest, er])) := ⟨Part.zero, [], _, _, _, _, _, rfl, RpO.nil _ _ _ rfl rfl rfl⟩
set_option maxRecDepth 100000 in
set_option maxHeartbeats 4000000 in
theorem decodeR_bad (K : Nat) (hK : K ≤ 12) (s : ByteArray) (w : World) (hs : s.size ≤ maxLen) (k : Nat) (hR : rdText s.data.toList 1048576 = .bad k) :
    Calls Tryz.prog 24 #[.int .i64 (K : Int), .string s] w (fun e w' => DPostR K s.data.toList w e w' ∧ OwdR w w' e) := by
  have hwi : wi (K : Int) 0 12 = true := wi_iff.2 ⟨by omega, by omega⟩
  have i1 := unframeM_any s (w.alloc (.cells #[.int .i64 0, .int .i64 0, .int .i64 0, .int .i64 0, .string ⟨#[]⟩, .slice none 0 0, .slice none 0 0, .slice none 0 0] 45)) hs
  rw [hR] at i1
  have i1 : Calls Tryz.prog 49 #[.string s] (w.alloc (.cells #[.int .i64 0, .int .i64 0, .int .i64 0, .int .i64 0, .string ⟨#[]⟩, .slice none 0 0, .slice none 0 0, .slice none 0 0] 45)) fun e w' => e = .returned (.tuple #[sv [], sv [], .int .i64 (unfr k)]) ∧ Below (w.alloc (.cells #[.int .i64 0, .int .i64 0, .int .i64 0, .int .i64 0, .string ⟨#[]⟩, .slice none 0 0, .slice none 0 0, .slice none 0 0] 45)).heap.size (w.alloc (.cells #[.int .i64 0, .int .i64 0, .int .i64 0, .int .i64 0, .string ⟨#[]⟩, .slice none 0 0, .slice none 0 0, .slice none 0 0] 45)) w' := i1
  have hne := unfr_ne k
  unfold DPostR
  rw [hR]
  show Calls _ _ _ _ fun e w' => (Below w.heap.size w w' ∧ e = .returned (.tuple #[rp0, sv [], .int .i64 (unfr k)])) ∧ OwdR w w' e
  generalize unfr k = z at *
  have hb : (z == 0) = false := by simp [hne]
  clear hR
  have z1 := size_alloc w (.cells #[.int .i64 0, .int .i64 0, .int .i64 0, .int .i64 0, .string ⟨#[]⟩, .slice none 0 0, .slice none 0 0, .slice none 0 0] 45)
  have r0 := hid (heap_alloc_new w (.cells #[.int .i64 0, .int .i64 0, .int .i64 0, .int .i64 0, .string ⟨#[]⟩, .slice none 0 0, .slice none 0 0, .slice none 0 0] 45))
  have b0 := hid ((Below.refl w.heap.size w).alloc (Nat.le_refl _) (.cells #[.int .i64 0, .int .i64 0, .int .i64 0, .int .i64 0, .string ⟨#[]⟩, .slice none 0 0, .slice none 0 0, .slice none 0 0] 45))
  go_enter Tryz.func24, Tryz.ntmps24
  go_wp2_with (first
    | (go_at_call 28; refine (within_any _ _ _ _).mono ?_; rw [hwi]; rintro e w' ⟨rfl, hw'⟩; rw [hw']; clear hw' w')
    | (go_at_call 49; refine i1.mono ?_; rintro e w1 ⟨rfl, h1⟩; have R1 := hid ((h1.block _ (by omega)).trans r0.out); have B1 := hid (b0.out.trans (h1.mono b0.out.size)); clear h1)
    | ((with_reducible show wpList _ _ _ (Oper.mk _ (Op.store 45 _ _) _ _ _ _ :: _) _ _); go_must (refine wpList_store_row rfl 45 _ _ rfl w.heap.size _ rfl rfl 45 _ R1.out (sizeRp' _ _ _ _ _ _ _ _) rfl (oneRp _ _ _ _ _ _ _ _ _ _ _ _ _ _) ?_)))
  refine bodyPost_ret (results_row_tmp2 rfl _ _ w.heap.size 45 _ (0, 0) _ rfl (setRow_heap _ _ _ _ _ _ R1.out) Tryz.underlying45 rfl sizeRp) rfl ?_
  exact ⟨⟨Below.setRow B1.out (Nat.le_refl _) _, rfl⟩, owdR_zero _ _ _ _⟩
set_option maxRecDepth 100000 in
set_option maxHeartbeats 4000000 in
theorem decodeR_good (K : Nat) (hK : K ≤ 12) (s : ByteArray) (w : World) (T : Lay w) (hs : s.size ≤ maxLen) (p r : List UInt8) (hR : rdText s.data.toList 1048576 = .good p r) :
    Calls Tryz.prog 24 #[.int .i64 (K : Int), .string s] w (fun e w' => DPostR K s.data.toList w e w' ∧ OwdR w w' e) := by
  have hwi : wi (K : Int) 0 12 = true := wi_iff.2 ⟨by omega, by omega⟩
  have i1 := unframeM_any s (w.alloc (.cells #[.int .i64 0, .int .i64 0, .int .i64 0, .int .i64 0, .string ⟨#[]⟩, .slice none 0 0, .slice none 0 0, .slice none 0 0] 45)) hs
  rw [hR] at i1
  have i1 : Calls Tryz.prog 49 #[.string s] (w.alloc (.cells #[.int .i64 0, .int .i64 0, .int .i64 0, .int .i64 0, .string ⟨#[]⟩, .slice none 0 0, .slice none 0 0, .slice none 0 0] 45)) fun e w' => e = .returned (.tuple #[.string ⟨p.toArray⟩, .string ⟨r.toArray⟩, .int .i64 0]) ∧ Below (w.alloc (.cells #[.int .i64 0, .int .i64 0, .int .i64 0, .int .i64 0, .string ⟨#[]⟩, .slice none 0 0, .slice none 0 0, .slice none 0 0] 45)).heap.size (w.alloc (.cells #[.int .i64 0, .int .i64 0, .int .i64 0, .int .i64 0, .string ⟨#[]⟩, .slice none 0 0, .slice none 0 0, .slice none 0 0] 45)) w' := i1
  have hpl : p.length ≤ 1048576 := by have := (text_back hR).2.2.1; omega
  unfold DPostR
  rw [hR]
  have hT := T.lt
  have HT := hid T
  have HP := hid hpl
  clear hR T hpl
  have z1 := size_alloc w (.cells #[.int .i64 0, .int .i64 0, .int .i64 0, .int .i64 0, .string ⟨#[]⟩, .slice none 0 0, .slice none 0 0, .slice none 0 0] 45)
  have r0 := hid (heap_alloc_new w (.cells #[.int .i64 0, .int .i64 0, .int .i64 0, .int .i64 0, .string ⟨#[]⟩, .slice none 0 0, .slice none 0 0, .slice none 0 0] 45))
  have b0 := hid ((Below.refl w.heap.size w).alloc (Nat.le_refl _) (.cells #[.int .i64 0, .int .i64 0, .int .i64 0, .int .i64 0, .string ⟨#[]⟩, .slice none 0 0, .slice none 0 0, .slice none 0 0] 45))
  obtain ⟨q, hq⟩ : ∃ q, Hid (tReply K (⟨p, 0, 0⟩, false) = q) := ⟨_, rfl⟩
  show Calls _ _ _ _ fun e w' => (Below w.heap.size w w' ∧ DOkR (tReply K (⟨p, 0, 0⟩, false)) r w e w') ∧ OwdR w w' e
  rw [hq.out]
  go_enter Tryz.func24, Tryz.ntmps24
  go_wp2_with (first
    | (go_at_call 28; refine (within_any _ _ _ _).mono ?_; rw [hwi]; rintro e w' ⟨rfl, hw'⟩; rw [hw']; clear hw' w')
    | (go_at_call 49; refine i1.mono ?_; rintro e w1 ⟨rfl, h1⟩; have R1 := hid ((h1.block _ (by omega)).trans r0.out); have B1 := hid (b0.out.trans (h1.mono b0.out.size)); have lt1 : w.heap.size < w1.heap.size := (by have := h1.size; omega); clear h1)
    | (go_at_call 50; fail))
  go_at_call 50
  refine (newReader_any ⟨p.toArray⟩ (by rw [sv_size]; have := HP.out; unfold maxLen; omega) w1).mono ?_
  rintro e w2 ⟨rfl, n1, n2, n3⟩
  rw [sv_data] at n1
  have hTk : Tk (w2.alloc (.cells #[.pointer (some ⟨w1.heap.size, 0, none⟩), .bool false] 86)) w1.heap.size w2.heap.size (⟨p, 0, 0⟩, false) :=
    ⟨heap_alloc_new _ _, n1.below ((Below.refl _ _).alloc (Nat.le_refl _) _), by omega, by have := HP.out; show p.length ≤ _; omega⟩
  have i2 := replyT_any hTk K hK
  rw [hq.out] at i2
  have b3 := (Below.refl w2.heap.size w2).alloc (Nat.le_refl _) (.cells #[.pointer (some ⟨w1.heap.size, 0, none⟩), .bool false] 86)
  have z3 := size_alloc w2 (.cells #[.pointer (some ⟨w1.heap.size, 0, none⟩), .bool false] 86)
  have R3 := hid ((b3.block _ (by omega)).trans ((n2.block _ (by omega)).trans R1.out))
  have B3 := hid ((B1.out.trans (n2.mono (by omega))).trans (b3.mono (by omega)))
  have L3 : w.heap.size < w2.heap.size := by omega
  have L1 : 1 ≤ w2.heap.size := by omega
  clear n1 n2 n3 hTk b3 R1 B1 z3
  go_wp2_with (go_at_call 58; fail)
  go_at_call 58
  refine i2.mono ?_
  rintro e w4 ⟨ul, ue, ua, rfl, g1, g2, g3, g4, g5, g6, g7, g8, g9⟩
  obtain ⟨p1, n1, e1, _⟩ := id g1
  obtain ⟨p2, n2, e2, _⟩ := id g3
  obtain ⟨p3, n3, e3⟩ := g5.shape
  subst e1 e2 e3
  obtain ⟨W3, hW3⟩ : ∃ W3, Hid (w2.alloc (.cells #[.pointer (some ⟨w1.heap.size, 0, none⟩), .bool false] 86) = W3) := ⟨_, rfl⟩
  have z3 : w2.heap.size < W3.heap.size := by rw [← hW3.out, size_alloc]; omega
  rw [hW3.out] at g2 g4 g5 g8 g9 R3 B3
  obtain ⟨cs, hcs⟩ : ∃ cs, Hid (#[Value.int .i64 q.1.1.status, .int .i64 q.1.1.size, .int .i64 q.1.1.a, .int .i64 q.1.1.b, .string ⟨q.1.1.root.toArray⟩, .slice p1 q.1.1.hs.length n1, .slice p2 q.1.1.ent.length n2, .slice p3 q.1.2.length n3] = cs) := ⟨_, rfl⟩
  have b5 := (Below.refl w4.heap.size w4).alloc (Nat.le_refl _) (.cells cs 45)
  have z5 := size_alloc w4 (.cells cs 45)
  have k4 := g8.size
  have b4 : Below w.heap.size w w4 := B3.out.trans (g8.below (by omega) (fun k hk e => by rcases e with e | e <;> omega))
  have r4 : w4.heap[w.heap.size]? = some (.cells #[.int .i64 0, .int .i64 0, .int .i64 0, .int .i64 0, .string ⟨#[]⟩, .slice none 0 0, .slice none 0 0, .slice none 0 0] 45 (0, 0)) := (g8.block _ (by omega) (fun e => by rcases e with e | e <;> omega)).trans R3.out
  have i3 := wholeT_any (g7.below b5) (HT.out.below (b4.trans (b5.mono (by omega))) hT)
  have r5 := heap_alloc_new w4 (.cells cs 45)
  have G : Hid (∀ w6, Below (w4.alloc (.cells cs 45)).heap.size (w4.alloc (.cells cs 45)) w6 → Below w.heap.size w w6 ∧ w6.heap[w.heap.size]? = some (.cells #[.int .i64 0, .int .i64 0, .int .i64 0, .int .i64 0, .string ⟨#[]⟩, .slice none 0 0, .slice none 0 0, .slice none 0 0] 45 (0, 0)) ∧ w6.heap[w4.heap.size]? = some (.cells cs 45 (0, 0)) ∧
      GotR (w6.setRow w.heap.size cs) w.heap.size q.1.1 q.1.2 (.slice p1 q.1.1.hs.length n1) (.slice p2 q.1.1.ent.length n2) (.slice p3 q.1.2.length n3) ∧ RpO (w6.setRow w.heap.size cs) w.heap.size q.1 (.slice p1 q.1.1.hs.length n1) (.slice p2 q.1.1.ent.length n2) (.slice p3 q.1.2.length n3)) := fun w6 h6 => by
    have b46 : Below w4.heap.size w4 w6 := b5.trans (h6.mono (by omega))
    refine ⟨b4.trans (b46.mono (by omega)), (b46.block _ (by omega)).trans r4, (h6.block _ (by omega)).trans r5, ?_⟩
    have k1 : Keep (fun k => k = w.heap.size) w4 (w6.setRow w.heap.size cs) := (Keep.ofBelow b46 : Keep (fun k => k = w.heap.size) w4 w6).trans (T := fun k => k = w.heap.size) ⟨rfl, rfl, rfl, by rw [setRow_size]; exact Nat.le_refl _, fun k _ hk => setRow_other w6 _ k _ hk⟩ (fun _ _ e => e)
    have hS : ∀ k, W3.heap.size ≤ k → k < w4.heap.size → ¬ k = w.heap.size := fun k k1 _ e => by omega
    exact ⟨⟨g2.slc g1 k1 hS, g2.mono (by omega) k1.size, g4.slc g3 k1 hS, g4.mono (by omega) k1.size, (g5.keep k1 hS).mono (by omega) k1.size, g6⟩, (g9.keep k1 hS).lower (by omega)⟩
  rw [← hcs.out] at i3
  rw [rpV, show sv q.1.1.root = .string ⟨q.1.1.root.toArray⟩ from rfl]
  clear g1 g2 g3 g4 g5 g6 g7 g8 g9 b4 b5 r4 r5 R3 B3 i1 i2
  cases hok : (decide (q.2.1.done = 0) && !q.2.2) with
  | true =>
    rw [hok] at i3
    have HO := hid hok
    clear hok
    go_wp2_with (go_at_call 52; fail)
    go_at_call 52
    refine i3.mono ?_
    rintro e w6 ⟨rfl, h6⟩
    obtain ⟨j1, j2, j3, j4⟩ := G.out w6 (by rw [← hcs.out]; exact h6)
    have y0 : w6.cell? ⟨w4.heap.size, 0, none⟩ = some (.int .i64 q.1.1.status) := (by rw [cell_of_row _ _ _ _ _ _ j3, ← hcs.out]; rfl)
    have y1 : w6.cell? ⟨w4.heap.size, 1, none⟩ = some (.int .i64 q.1.1.size) := (by rw [cell_of_row _ _ _ _ _ _ j3, ← hcs.out]; rfl)
    have y2 : w6.cell? ⟨w4.heap.size, 2, none⟩ = some (.int .i64 q.1.1.a) := (by rw [cell_of_row _ _ _ _ _ _ j3, ← hcs.out]; rfl)
    have y3 : w6.cell? ⟨w4.heap.size, 3, none⟩ = some (.int .i64 q.1.1.b) := (by rw [cell_of_row _ _ _ _ _ _ j3, ← hcs.out]; rfl)
    have y4 : w6.cell? ⟨w4.heap.size, 4, none⟩ = some (.string ⟨q.1.1.root.toArray⟩) := (by rw [cell_of_row _ _ _ _ _ _ j3, ← hcs.out]; rfl)
    have y5 : w6.cell? ⟨w4.heap.size, 5, none⟩ = some (.slice p1 q.1.1.hs.length n1) := (by rw [cell_of_row _ _ _ _ _ _ j3, ← hcs.out]; rfl)
    have y6 : w6.cell? ⟨w4.heap.size, 6, none⟩ = some (.slice p2 q.1.1.ent.length n2) := (by rw [cell_of_row _ _ _ _ _ _ j3, ← hcs.out]; rfl)
    have y7 : w6.cell? ⟨w4.heap.size, 7, none⟩ = some (.slice p3 q.1.2.length n3) := (by rw [cell_of_row _ _ _ _ _ _ j3, ← hcs.out]; rfl)
    have J1 := hid j1
    have J2 := hid j2
    have J4 := hid j4
    clear h6 j1 j2 j3 j4
    go_wp2_with ((with_reducible show wpList _ _ _ (Oper.mk _ (Op.store 45 _ _) _ _ _ _ :: _) _ _); go_must (refine wpList_store_row rfl 45 _ _ rfl w.heap.size _ rfl rfl 45 _ J2.out (sizeRp' _ _ _ _ _ _ _ _) rfl (oneRp _ _ _ _ _ _ _ _ _ _ _ _ _ _) ?_))
    refine bodyPost_ret (results_row_tmp2 rfl _ _ w.heap.size 45 _ (0, 0) _ rfl (setRow_heap _ _ _ _ _ _ J2.out) Tryz.underlying45 rfl sizeRp) rfl ?_
    refine ⟨⟨Below.setRow J1.out (Nat.le_refl _) _, ?_⟩, ?_⟩
    · unfold DOkR
      rw [if_pos HO.out]
      refine ⟨_, _, _, rfl, ?_⟩
      rw [hcs.out]
      exact J4.out.1
    · refine ⟨q.1.1, q.1.2, _, _, _, _, _, rfl, ?_⟩
      rw [hcs.out]
      exact J4.out.2
  | false =>
    rw [hok] at i3
    have HO := hid hok
    clear hok
    go_wp2_with (go_at_call 52; fail)
    go_at_call 52
    refine i3.mono ?_
    rintro e w6 ⟨rfl, h6⟩
    obtain ⟨j1, j2, j3, j4⟩ := G.out w6 (by rw [← hcs.out]; exact h6)
    have J1 := hid j1
    have J2 := hid j2
    clear h6 j1 j2 j3 j4
    go_wp2_with ((with_reducible show wpList _ _ _ (Oper.mk _ (Op.store 45 _ _) _ _ _ _ :: _) _ _); go_must (refine wpList_store_row rfl 45 _ _ rfl w.heap.size _ rfl rfl 45 _ J2.out (sizeRp' _ _ _ _ _ _ _ _) rfl (oneRp _ _ _ _ _ _ _ _ _ _ _ _ _ _) ?_))
    refine bodyPost_ret (results_row_tmp2 rfl _ _ w.heap.size 45 _ (0, 0) _ rfl (setRow_heap _ _ _ _ _ _ J2.out) Tryz.underlying45 rfl sizeRp) rfl ?_
    refine ⟨⟨Below.setRow J1.out (Nat.le_refl _) _, ?_⟩, owdR_zero _ _ _ _⟩
    unfold DOkR
    rw [if_neg (by rw [HO.out]; exact Bool.false_ne_true)]
    rfl
theorem decodeR_own (K : Nat) (hK : K ≤ 12) (s : ByteArray) (w : World) (T : Lay w) (hs : s.size ≤ maxLen) : Calls Tryz.prog 24 #[.int .i64 (K : Int), .string s] w (fun e w' => DPostR K s.data.toList w e w' ∧ OwdR w w' e) := by
  cases hR : rdText s.data.toList 1048576 with
  | bad k => exact decodeR_bad K hK s w hs k hR
  | good p r => exact decodeR_good K hK s w T hs p r hR
theorem decodeR_any (K : Nat) (hK : K ≤ 12) (s : ByteArray) (w : World) (T : Lay w) (hs : s.size ≤ maxLen) : Calls Tryz.prog 24 #[.int .i64 (K : Int), .string s] w (DPostR K s.data.toList w) :=
  (decodeR_own K hK s w T hs).mono fun _ _ h => h.1
end Msg
end Go.Proofs.YtmhgdcfmfcjagaaGreatDoor
