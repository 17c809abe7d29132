import Derived.Test.YtenklmjeeejfdaaGreatDoorPkCP6
import Derived.Test.YtenklmjeeejfdaaGreatDoorPkI1
import Derived.Test.YtenklmjeeejfdaaGreatDoorPkW7
import Derived.Test.YtenklmjeeejfdaaGreatDoorPkO2
namespace Go.Proofs.YtenklmjeeejfdaaGreatDoor
open Go.RowKit Go.Shelf
namespace Chn
theorem knownOf_bad (cs : List Int) (H : List (List UInt8)) (m k : Nat) (hm : Hid (cs.length = m)) (hk : Hid (H.length = k)) (ac ah : Option Addr) (cc chp : Nat) (w : World) (hA : AtI w ac cs) (hAh : At w ah H) (lc : m ≤ 9223372036854775807) (lh : k ≤ 9223372036854775807) (he : exE cs H ≠ 0) :
    Calls Tryz.prog 43 #[ch (.slice ac m cc) (.slice ah k chp)] w fun r w' => r = .returned (.tuple #[.agg #[.slice none 0 0, .map none, .slice none 0 0], .int .i64 (exE cs H)]) ∧ Below w.heap.size w w' := by
  cases hb : mayB cs with
  | false =>
    have e : exE cs H = 130 := by unfold exE; rw [hb]; rfl
    rw [e]
    exact knownOf_no cs m k hm ac ah cc chp w hA lc hb
  | true =>
    obtain ⟨hs, rfl, HH⟩ := mayB_hds hb
    have hn : ¬ (k = (told hs).length ∧ hsB8 H = true) := fun q => he (by unfold exE; rw [hb, if_pos rfl, ix_toN, hk.out, if_pos q])
    have e : exE (ix hs) H = 131 := by unfold exE; rw [hb, if_pos rfl, ix_toN, hk.out, if_neg hn]
    rw [e]
    exact knownOf_form hs HH H m k _ (show hs.length = m by rw [← hm.out]; simp [ix]) hk rfl ac ah cc chp w hA hAh lh hn
theorem exE_ok {cs : List Int} {H : List (List UInt8)} (h : exE cs H = 0) : ∃ hs, cs = ix hs ∧ Hds hs ∧ H.length = (told hs).length ∧ hsB8 H = true := by
  unfold exE at h
  split at h
  · rename_i hb
    split at h
    · rename_i hc
      obtain ⟨hs, rfl, HH⟩ := mayB_hds hb
      rw [ix_toN] at hc
      exact ⟨hs, rfl, HH, hc.1, hc.2⟩
    · cases h
  · cases h
theorem fieldTd (a : Option Addr) (n c : Nat) (u : Value) (w : World) : (Instr.field 78 (.agg #[.slice a n c, u]) 0).run Tryz.prog w = .ok (.slice a n c) w := by
  simp [Instr.field, run_underlying Tryz.underlying78, asAgg, part, Result.andThen]
def ndE (cs : List Int) : Int := if mayB cs = true then 0 else 130
def ndL (cs : List Int) : List (Nat × Nat) := if mayB cs = true then told (cs.map Int.toNat) else []
set_option maxRecDepth 100000 in
set_option maxHeartbeats 2000000 in
theorem nodes13_any (cs : List Int) (m : Nat) (hm : Hid (cs.length = m)) (ac : Option Addr) (cc : Nat) (w : World) (hA : AtI w ac cs) (lc : m ≤ 9223372036854775807) :
    Calls Tryz.prog 16 #[.slice ac m cc] w (SpP w (ndE cs) (ndL cs)) := by
  have i1 := mayBe_any cs ac cc w (by rw [hm.out]; exact lc) hA
  cases hb : mayB cs with
  | false =>
    have e1 : ndE cs = 130 := by unfold ndE; rw [hb]; rfl
    have e2 : ndL cs = [] := by unfold ndL; rw [hb]; rfl
    rw [e1, e2]
    rw [hb, hm.out] at i1
    clear hA hb hm e1 e2
    go_enter Tryz.func16, Tryz.ntmps16
    go_wp2_with (go_at_call 41; refine i1.mono ?_; rintro r w1 ⟨rfl, b1⟩; have B1 := hid b1; clear b1)
    go_ret2
    exact ⟨B1.out, _, rfl, OwnM.nil 2 _, (fun k hk => by cases hk)⟩
  | true =>
    obtain ⟨hs, rfl, HH⟩ := mayB_hds hb
    have e1 : ndE (ix hs) = 0 := by unfold ndE; rw [hb]; rfl
    have e2 : ndL (ix hs) = told hs := by unfold ndL; rw [hb, if_pos rfl, ix_toN]
    have hl : hs.length = m := by rw [← hm.out]; simp [ix]
    have i2 := fun w' (bb : Below w.heap.size w w') => toldOf_any hs HH ac cc w' (hA.below bb (Nat.le_refl _))
    rw [hl] at i2
    rw [e1, e2]
    rw [hb, hm.out] at i1
    clear hA hb hm e1 e2 hl
    go_enter Tryz.func16, Tryz.ntmps16
    go_wp2_with (first
      | (go_at_call 41; refine i1.mono ?_; rintro r w1 ⟨rfl, b1⟩; have B1 := hid b1; clear b1)
      | (go_at_call 42; refine (i2 _ B1.out).mono ?_; rintro r w2 ⟨v, b, rfl, tv, hb, hv, b2⟩; have TV := hid tv; have HV := hid hv; have B2 := hid (B1.out.trans (b2.mono B1.out.size)); obtain ⟨va, vn, vc, rfl⟩ := ownM_sl tv.own; have hfd := fieldTd va vn vc (.map (some b)); clear tv hv b2 hb))
    go_ret2
    exact ⟨B2.out, _, rfl, TV.out.own, fun k hk => Nat.le_trans B1.out.size (HV.out k hk)⟩
structure Ex (w w' : World) (q b G : Nat) (v h v' h' : Value) (A K0 : List (Nat × Nat)) (H0 : List (List UInt8)) (gs : List Nat) (ps : List (List (List UInt8))) (m : Nat) (K : List (Nat × Nat)) (H : List (List UInt8)) : Prop where
  kd : Kd w' q b v' h' K H
  kw : Kw A K0 H0 K H
  kp : Keep (fun k => Kd.F q b v h k ∨ k = G) w w'
  nw : Nw w q b v h v' h'
  row : RowV w' G 23 (lsts gs ps m)
  ls : Lsts w' (G + 1) gs ps
  gF : ¬ Kd.F q b v' h' G
  lF : ∀ g ∈ gs, ¬ Kd.F q b v' h' g
  gl : G < w.heap.size
theorem Ex.mid {w w' w2 : World} {q b G : Nat} {v h v' h' : Value} {A K0 K : List (Nat × Nat)} {H0 H : List (List UInt8)} {gs : List Nat} {ps : List (List (List UInt8))} {m : Nat} (e : Ex w w' q b G v h v' h' A K0 H0 gs ps m K H) (kp : Keep (Kd.F q b v' h') w' w2) : RowV w2 G 23 (lsts gs ps m) := by
  unfold RowV
  rw [kp.block G e.row.lt e.gF]
  exact e.row
theorem Ex.next {w w' w2 : World} {q b G g : Nat} {v h v' h' v2 h2 : Value} {A K0 K K2 : List (Nat × Nat)} {H0 H H2 : List (List UInt8)} {gs : List Nat} {ps : List (List (List UInt8))} {m : Nat} (e : Ex w w' q b G v h v' h' A K0 H0 gs ps m K H) (kd : Kd w2 q b v2 h2 K2 H2) (kw : Kw A K0 H0 K2 H2) (kp : Keep (Kd.F q b v' h') w' w2) (nw : Nw w' q b v' h' v2 h2) (hp : gs.length < ps.length) (hm : gs.length < m) (hr : Row w2 g (ps[gs.length]'hp)) (hg : w'.heap.size ≤ g) (hgF : ¬ Kd.F q b v2 h2 g) :
    Ex w (w2.setCell ⟨G, gs.length, none⟩ (lst g (ps[gs.length]'hp))) q b G v h v2 h2 A K0 H0 (gs ++ [g]) ps m K2 H2 := by
  have hs := e.kp.size
  have hs2 := kp.size
  have hgl := e.row.lt
  have gF2 : ¬ Kd.F q b v2 h2 G := fun f => by
    rcases nw G f with f | f
    · exact e.gF f
    · omega
  have k1 : Keep (fun i => i = G) w2 (w2.setCell ⟨G, gs.length, none⟩ (lst g (ps[gs.length]'hp))) := Keep.ofSet (S := fun i => i = G) w2 G _ _ rfl
  refine ⟨kd.keep k1 (fun i f e2 => gF2 (e2 ▸ f)), kw, (e.kp.trans kp (fun i hi f => .inl ((e.nw i f).resolve_right (by omega)))).trans k1 (fun i _ f => .inr f), e.nw.trans nw hs, ?_, ⟨?_, ?_, ?_⟩, gF2, ?_, e.gl⟩
  · have := (e.mid kp).set gs.length (lst g (ps[gs.length]'hp))
    rw [lsts_set hp hm g] at this
    exact this
  · intro j g' p h1 h2'
    rcases Nat.lt_or_ge j gs.length with c | c
    · rw [List.getElem?_append_left c] at h1
      have hgm := List.mem_of_getElem? h1
      have hge := e.ls.ge g' hgm
      have r1 := e.ls.row j g' p h1 h2'
      unfold Row at r1 ⊢
      rw [k1.block g' (by omega) (by omega), kp.block g' hge.2 (e.lF g' hgm)]
      exact r1
    · rw [List.getElem?_append_right c] at h1
      have hj : j = gs.length := by
        rcases Nat.lt_or_ge (j - gs.length) 1 with c2 | c2
        · omega
        · rw [List.getElem?_eq_none (by simpa using c2)] at h1; cases h1
      subst hj
      rw [Nat.sub_self] at h1
      simp at h1
      subst h1
      rw [List.getElem?_eq_getElem hp] at h2'
      cases h2'
      unfold Row at hr ⊢
      rw [k1.block g (lt_of_heap hr) (by omega)]
      exact hr
  · refine List.pairwise_append.2 ⟨e.ls.up, List.pairwise_singleton _ _, fun x hx y hy => ?_⟩
    rw [List.mem_singleton.1 hy]
    have := (e.ls.ge x hx).2
    omega
  · intro g' hg'
    rw [World.size_setCell]
    rcases List.mem_append.1 hg' with hg' | hg'
    · have := e.ls.ge g' hg'
      omega
    · rw [List.mem_singleton.1 hg']
      have := lt_of_heap hr
      omega
  · intro g' hg'
    rcases List.mem_append.1 hg' with hg' | hg'
    · intro f
      rcases nw g' f with f | f
      · exact e.lF g' hg' f
      · have := (e.ls.ge g' hg').2; omega
    · rw [List.mem_singleton.1 hg']
      exact hgF
theorem Kv.kd {w w1 : World} {b : Nat} {v h : Value} {K : List (Nat × Nat)} {H : List (List UInt8)} (k : Kv w w1 b v h K H) : Kd (w1.alloc (.cells #[v, .map (some b), h] 81)) w1.heap.size b v h K H := by
  have r := heap_alloc_new w1 (.cells #[v, .map (some b), h] 81)
  have bA := (Below.refl w1.heap.size w1).alloc (Nat.le_refl _) (.cells #[v, .map (some b), h] 81)
  have t := k.tv.below bA
  have lb := k.tv.lt
  refine ⟨⟨?_, ?_, frozen_of_row _ _ _ _ _ r, t.own, t.mp, t.lo, by omega, fun e => ?_, t.vb, lt_of_heap r⟩, ?_, frozen_of_row _ _ _ _ _ r, k.oh.below bA, ?_⟩
  · rw [cell_of_row _ _ _ _ _ _ r]; rfl
  · rw [cell_of_row _ _ _ _ _ _ r]; rfl
  · have := k.tv.own.lt _ e; omega
  · rw [cell_of_row _ _ _ _ _ _ r]; rfl
  · rintro i hi (e | e | e)
    · have := k.oh.lt i hi; omega
    · subst e; exact k.hb hi
    · exact k.hv i hi e
set_option maxRecDepth 100000 in
set_option maxHeartbeats 2000000 in
theorem expandC_bad (cs : List Int) (H : List (List UInt8)) (m k : Nat) (hm : Hid (cs.length = m)) (hk : Hid (H.length = k)) (ac ah : Option Addr) (cc chp : Nat) (w : World) (hA : AtI w ac cs) (hAh : At w ah H) (lc : m ≤ 9223372036854775807) (lh : k ≤ 9223372036854775807) (he : exE cs H ≠ 0) :
    Calls Tryz.prog 17 #[ch (.slice ac m cc) (.slice ah k chp)] w fun r w' => r = .returned (.tuple #[.slice none 0 0, .int .i64 (exE cs H)]) ∧ Below w.heap.size w w' := by
  have b0 := (Below.refl w.heap.size w).alloc (Nat.le_refl _) (.cells #[.slice ac m cc, .slice ah k chp] 25)
  have i1 := knownOf_bad cs H m k hm hk ac ah cc chp _ (hA.below b0 (Nat.le_refl _)) (hAh.below b0 (Nat.le_refl _)) lc lh he
  generalize exE cs H = E at *
  have h0 : (E != 0) = true := by simpa using he
  have h1 : ¬ E = 0 := he
  have B0 := hid b0
  clear hA hAh b0 hm hk
  go_enter Tryz.func17, Tryz.ntmps17
  go_wp2_with (go_at_call 43; refine i1.mono ?_; rintro r w1 ⟨rfl, b1⟩; have b2 := b1.trans (((Below.refl w1.heap.size w1).alloc (Nat.le_refl _) (.cells #[.slice none 0 0, .map none, .slice none 0 0] 81)).mono b1.size); have B1 := hid (B0.out.trans (b2.mono B0.out.size)); clear b1 b2)
  go_ret2
  exact ⟨rfl, B1.out⟩
set_option maxRecDepth 100000 in
set_option maxHeartbeats 2000000 in
theorem expandC_ok (hs : List Nat) (HH : Hds hs) (H : List (List UInt8)) (m k : Nat) (hm : Hid (hs.length = m)) (hk : Hid (H.length = k)) (HT : Hid ((told hs).length = k)) (ac ah : Option Addr) (cc chp : Nat) (w : World) (hA : AtI w ac (ix hs)) (hAh : At w ah H) (hq : hsB8 H = true) (T : Tabs w) :
    Calls Tryz.prog 17 #[ch (.slice ac m cc) (.slice ah k chp)] w (LsP w (exL hs H)) := by
  have b0 := (Below.refl w.heap.size w).alloc (Nat.le_refl _) (.cells #[.slice ac m cc, .slice ah k chp] 25)
  have s0 := ChI.new w (.slice ac m cc) (.slice ah k chp)
  have i1 := knownOf_ok hs HH H m k hm hk HT ac ah cc chp _ (hA.below b0 (Nat.le_refl _)) (hAh.below b0 (Nat.le_refl _)) hq
  have lm : m ≤ 64 := by rw [← hm.out]; exact HH.le
  have lm1 : 1 ≤ m := by rw [← hm.out]; exact HH.ne
  have lt0 : hs.length - 1 < hs.length := by rw [hm.out]; omega
  have kwf : Hid (Kw (allP hs (hs.length - 1)) (told hs) H (told hs) H) := Kw.first (by rw [HT.out, hk.out]) (tol_tld hs _) (fun s h => (tol_lo HH lt0 s h).1) (tol_sub hs _) (fun x hx => by have := List.all_eq_true.1 hq x hx; simpa using this)
  have hAl : Hid ((allP hs (hs.length - 1)).length ≤ 4096) := by have := allP_len HH _ lt0; have h9 : hs.length - 1 ≤ 63 := (by rw [hm.out]; omega); unfold Hid; omega
  have mk := fun w' => make_lists' w' (m - 1) (by omega)
  have HA := hid (fun w' (bb : Below w.heap.size w w') => hA.below bb (Nat.le_refl _))
  obtain ⟨x, rfl⟩ := hA.pos (by simp [ix]; rw [hm.out]; omega)
  have hxb : x.block < w.heap.size := by
    obtain ⟨y, hy, h1, _⟩ := hA 0 _ (ix_at (by rw [hm.out]; omega))
    obtain rfl := Option.some.inj hy
    exact h1
  have TT := hid (fun w' (bb : Below w.heap.size w w') => T.below bb T.lt)
  have hTl := T.lt
  obtain ⟨ps, hps⟩ : ∃ ps, exL hs H = ps := ⟨_, rfl⟩
  have HPS := hid hps
  rw [hps]
  have hpl : Hid (ps.length = m - 1) := by unfold Hid; rw [← hps, ← hm.out]; simp [exL]
  have S0 := hid s0
  have B0 := hid b0
  have c0 := s0.c0
  have c1 := s0.c1
  have v1 : IntKind.i64.wrap ((m : Int) - 1) = (m : Int) - 1 := by rw [IntKind.wrap_i64]; omega
  have v2 : (m : Int) - 1 = ((m - 1 : Nat) : Int) := by omega
  have HHH := hid HH
  obtain ⟨M, hM⟩ : ∃ M, m - 1 = M := ⟨_, rfl⟩
  have HMM := hid hM
  rw [hM] at v2 mk
  clear hA hAh b0 s0 hq T hps HT hk HH lt0 hM
  go_enter Tryz.func17, Tryz.ntmps17
  go_wp2_with (go_at_call 43; refine i1.mono ?_; rintro r w1 ⟨v, b, h, rfl, kv⟩; obtain ⟨va, vn, vc, rfl⟩ := ownM_sl kv.tv.own; obtain ⟨ha, hn, hc, rfl⟩ := ownM_sl kv.oh; have kd1 := hid kv.kd; have bA := (Below.refl w1.heap.size w1).alloc (Nat.le_refl _) (.cells #[.slice va vn vc, .map (some b), .slice ha hn hc] 81); have b1 := kv.bel.trans (bA.mono kv.bel.size); have S1 := hid (S0.out.below b1); have d0 := S1.out.c0; have B1 := hid (B0.out.trans (b1.mono B0.out.size)); obtain ⟨w2, mk1, R2, B2, z2⟩ := mk (w1.alloc (.cells #[.slice va vn vc, .map (some b), .slice ha hn hc] 81)); have HKV := hid kv; have S2 := hid (S1.out.below B2); have d2 := S2.out.c0; have HR2 := hid R2; have HB2 := hid B2; have Z2 := hid z2; clear kv bA b1 R2 B2 z2)
  rw [size_alloc] at HR2
  have zv := HKV.out.b0
  rw [size_alloc] at zv
  have FB : Hid (∀ i, Kd.F w1.heap.size b (.slice va vn vc) (.slice ha hn hc) i → w.heap.size + 1 ≤ i) := by
    have z1 := HKV.out.bel.size
    rw [size_alloc] at z1
    rintro i ((e | e | e) | e)
    · omega
    · omega
    · have := HKV.out.v0 i e; rw [size_alloc] at this; exact this
    · have := HKV.out.h0 i e; rw [size_alloc] at this; exact this
  have zz : w2.heap.size = w1.heap.size + 1 + 1 := by rw [Z2.out, size_alloc]
  have zlb := HKV.out.tv.lt
  have E0 : Hid (Ex w2 w2 w1.heap.size b (w1.heap.size + 1) (.slice va vn vc) (.slice ha hn hc) (.slice va vn vc) (.slice ha hn hc) (allP hs (hs.length - 1)) (told hs) H [] ps M (told hs) H) := by
    refine ⟨kd1.out.below HB2.out, kwf.out, Keep.refl _ _, Nw.refl _ _ _ _ _, ?_, ⟨(fun k g p h => by simp at h), List.Pairwise.nil, (fun g h => by cases h)⟩, fun f => ?_, (fun g h => by cases h), by omega⟩
    · have := HR2
      unfold lsts
      simpa using this.out
    · have := kd1.out.Flt _ f
      rw [size_alloc] at this
      omega
  have BW2 := hid (B1.out.trans (HB2.out.mono B1.out.size))
  have zB := B1.out.size
  have zw1 : w.heap.size + 1 ≤ w1.heap.size := by have := HKV.out.bel.size; rw [size_alloc] at this; exact this
  clear mk mk1 i1 c0 c1 d0 d2 kd1 HR2 HB2 HKV kwf S0 S1 B0 B1 Z2
  go_loopw [7, 25] (fun _ i w' => ∃ (j : Nat) (gs : List Nat) (v' h' : Value) (K' : List (Nat × Nat)) (H' : List (List UInt8)), j ≤ M ∧ i = .int .i64 (j : Int) ∧ Hid (gs.length = j) ∧ Hid (Ex w2 w' w1.heap.size b (w1.heap.size + 1) (.slice va vn vc) (.slice ha hn hc) v' h' (allP hs (hs.length - 1)) (told hs) H gs ps M K' H')) (fun _ i _ => M - (intOf i).toNat)
  case atStart => exact ⟨0, [], _, _, _, _, by omega, rfl, rfl, E0⟩
  case round =>
    clear E0
    obtain ⟨j, gs, v', h', K', H', hj, rfl, hgj, hE⟩ := hrel
    have bw : Below (w.heap.size + 1) w2 wr := keep_belowC hE.out.kp (by omega) (by
      rintro i (e | e)
      · exact FB.out i e
      · omega)
    have bww := BW2.out.trans (bw.mono (by omega))
    by_cases hjm : j < M
    · have e0 : (j : Int) < (M : Int) := by omega
      have hj1 : j + 1 < hs.length := by rw [hm.out]; have := HMM.out; omega
      have hj0 : j < hs.length := by omega
      have pr := HHH.out.pair hj1
      have hA1 := HA.out _ bww
      have S3 : Hid (ChI wr w.heap.size (.slice (some x) m cc) (.slice ah k chp)) := (bw.block w.heap.size (by omega)).trans S2.out
      have fact : ∀ w', AtI w' (some x) (ix hs) → ChI w' w.heap.size (.slice (some x) m cc) (.slice ah k chp) → w'.cell? ⟨w.heap.size, 0, none⟩ = some (.slice (some x) m cc) ∧ w'.cell? (x.add j) = some (.int .i64 (hs.getD j 0 : Int)) ∧ w'.cell? ⟨x.block, x.off + (j + 1), none⟩ = some (.int .i64 (hs.getD (j + 1) 0 : Int)) := fun w' h hc => by
        obtain ⟨y, hy, _, h0⟩ := h j _ (ix_at hj0)
        obtain ⟨z, hz, _, h1⟩ := h (j + 1) _ (ix_at hj1)
        obtain rfl := Option.some.inj hy
        obtain rfl := Option.some.inj hz
        refine ⟨hc.c0, h0, ?_⟩
        rw [← h1]
        simp [Addr.add]
      have x0 := fact _ hA1 S3.out
      have hFt : ∀ i, Kd.F w1.heap.size b v' h' i → w.heap.size + 1 ≤ i := fun i f => by
        rcases hE.out.nw i f with f | f
        · exact FB.out i f
        · omega
      have hpA : ∀ s ∈ prf (hs.getD j 0) (hs.getD (j + 1) 0), s ∈ allP hs (hs.length - 1) ∧ can (told hs) s = true := fun s h => by
        obtain ⟨d, hd⟩ : ∃ d, hs.length - 1 = j + 1 + d := ⟨hs.length - 1 - (j + 1), by omega⟩
        refine ⟨?_, ?_⟩
        · rw [hd]
          have : ∀ d, s ∈ allP hs (j + 1 + d) := fun d => by
            induction d with
            | zero => exact List.mem_append.2 (.inr h)
            | succ d ih => exact List.mem_append.2 (.inl ih)
          exact this d
        · unfold told
          rw [hd]
          exact tol_can HHH.out d (by omega) s h
      have i2 := proofC_any (hE.out.kd.below (Below.refl _ _).drew) hE.out.kw (TT.out _ bww.drew) (fun i f => by have := hFt i f; omega) pr.1 (Nat.le_of_lt pr.2.1) pr.2.2 hpA hAl.out
      have hpj : j < ps.length := by rw [hpl.out]; have := HMM.out; omega
      have hpe : Hid (ps[j] = (prf (hs.getD j 0) (hs.getD (j + 1) 0)).map (fld (told hs) H)) := by
        unfold Hid
        have := HPS.out
        subst this
        simp [exL, exP]
      have HF := hid fact
      generalize hs.getD j 0 = a at *
      generalize hs.getD (j + 1) 0 = c at *
      have hpl2 : Hid (ps[j].length = (prf a c).length) := by unfold Hid; rw [hpe.out, List.length_map]
      rw [← hpe.out, ← hpl2.out] at i2
      have hgp : gs.length < ps.length := by rw [hgj.out]; exact hpj
      have hgm : gs.length < M := by rw [hgj.out]; exact hjm
      have hgg : ps[gs.length]'hgp = ps[j] := by congr 1
      have nxt := fun (w3 : World) (g : Nat) (v2 h2 : Value) (K2 : List (Nat × Nat)) (H2 : List (List UInt8)) kd kw kp nw (hr : Row w3 g ps[j]) hg hgF => hE.out.next (w2 := w3) (g := g) (v2 := v2) (h2 := h2) (K2 := K2) (H2 := H2) kd kw kp nw hgp hgm (by rw [hgg]; exact hr) hg hgF
      rw [hgg, hgj.out] at nxt
      have HNX := hid nxt
      have rl : j < (lsts gs ps M).length := by rw [lsts_len (by omega) (by omega)]; exact hjm
      have hGF := hid hE.out.gF
      have Hmid := hid (fun (w3 : World) (kp : Keep (Kd.F w1.heap.size b v' h') wr w3) => hE.out.mid kp)
      have HFT := hid hFt
      have hA2 := hid (fun (w3 : World) (bb : Below (w.heap.size + 1) wr w3) => HF.out w3 (HA.out _ (bww.trans (bb.mono (by omega)))) ((bb.block w.heap.size (by omega)).trans S3.out))
      have zwr := hE.out.kp.size
      have v3 : IntKind.i64.wrap ((j : Int) + 1) = (j : Int) + 1 := by rw [IntKind.wrap_i64]; omega
      have v4 : ((j : Int) + 1).toNat = j + 1 := by omega
      have v5 : (0 : Int) ≤ (j : Int) + 1 := by omega
      have v6 : (j : Int) + 1 < (m : Int) := by have := HMM.out; omega
      have v7 : (j : Int) < (m : Int) := by omega
      have v8 : (0 : Int) ≤ (j : Int) := by omega
      obtain ⟨pj, hpj'⟩ : ∃ pj, ps[j] = pj := ⟨_, rfl⟩
      unfold Hid at HNX
      rw [hpj'] at i2 HNX
      have HNX := hid HNX
      obtain ⟨nl, hnl⟩ : ∃ nl, pj.length = nl := ⟨_, rfl⟩
      have HNL := hid hnl
      rw [hnl] at i2
      clear fact hA1 hpA hFt nxt hE pr hpe hpl2 bw bww hnl hpj' hgg
      go_wp2
      go_region_held3 (fun w' => w'.cell? ⟨w.heap.size, 0, none⟩ = some (.slice (some x) m cc) ∧ w'.cell? (x.add j) = some (.int .i64 (a : Int)) ∧ w'.cell? ⟨x.block, x.off + (j + 1), none⟩ = some (.int .i64 (c : Int))) (first | exact x2 | exact x1 | exact x0) (first | (go_at_call 44; refine i2.mono ?_; rintro r w3 ⟨g, v2, h2, K2, H2, rfl, hr, hg, kd2, kw2, kp2, nw2, gF2⟩; have kp3 : Keep (Kd.F w1.heap.size b v' h') wr w3 := ⟨kp2.os, kp2.tape, kp2.output, kp2.size, kp2.block⟩; have bb : Below (w.heap.size + 1) wr w3 := keep_belowC kp3 (by omega) HFT.out; have x1 := hA2.out _ bb; have EN := hid (HNX.out w3 g v2 h2 K2 H2 kd2 kw2 kp3 nw2 hr hg gF2); have RM := Hmid.out _ kp3; have f3 := RM.free rl; have d3 := RM.cell (List.getElem?_eq_getElem rl); have bb4 := Below.setCell (p := ⟨w1.heap.size + 1, j, none⟩) bb (by show w.heap.size + 1 ≤ w1.heap.size + 1; omega) (lst g pj); have x2 := hA2.out _ bb4; unfold lst at x2; rw [HNL.out] at x2; clear hr hg kd2 kw2 kp2 kp3 nw2 gF2 bb bb4 RM))
      go_wp2
      exact ⟨⟨j + 1, gs ++ [g], v2, h2, K2, H2, by omega, by go_num, by unfold Hid; rw [List.length_append, hgj.out]; rfl, (by have := EN.out; unfold lst at this; rw [HNL.out] at this; exact this)⟩, by simp [intOf]; omega⟩
    · obtain rfl : j = M := by omega
      have e0 : ¬ (j : Int) < (j : Int) := by omega
      go_wp2
      go_ret2
      refine ⟨w1.heap.size + 1, gs, by rw [hpl.out, HMM.out]; rfl, ?_, by rw [hpl.out, HMM.out]; exact hgj.out, hE.out.ls, by omega, bww⟩
      have := hE.out.row
      unfold lsts at this
      rw [hgj.out, Nat.sub_self, List.replicate_zero, List.append_nil] at this
      exact this
end Chn
end Go.Proofs.YtenklmjeeejfdaaGreatDoor

namespace Go.Proofs.YtenklmjeeejfdaaGreatDoor
open Go.RowKit
abbrev wy (p l : Nat) : Value := .agg #[.int .i64 (p : Int), .int .i64 (l : Int)]
theorem tdiv2 (k : Nat) : ((k : Int).tdiv 2) = ((k / 2 : Nat) : Int) := by rw [Int.tdiv_eq_ediv_of_nonneg (by omega)]; omega
theorem wrap2 (k : Nat) (h : k < 9223372036854775808) : IntKind.i64.wrap ((k / 2 : Nat) : Int) = ((k / 2 : Nat) : Int) := wrap_small _ (by omega) (by omega)
theorem sizeW : (Tryz.prog.info? 137).map (·.size) = some 2 := by kernel_rfl
theorem sizeW' (a b : Value) : (Tryz.prog.info? 137).map (·.size) = some #[a, b].size := sizeW
theorem oneW (a b : Int) : (#[Value.int .i64 a, Value.int .i64 b].all (·.oneCell')) = true := all_oneCell_toArray (cs := [Value.int .i64 a, Value.int .i64 b]) fun v hv => by
  simp only [List.mem_cons, List.not_mem_nil, or_false] at hv
  rcases hv with rfl | rfl <;> rfl
def Wy (w : World) (g p l : Nat) : Prop := w.heap[g]? = some (.cells #[.int .i64 (p : Int), .int .i64 (l : Int)] 137 (0, 0))
theorem Wy.row {w : World} {g p l : Nat} (h : Wy w g p l) : w.heap[g]? = some (.cells #[.int .i64 (p : Int), .int .i64 (l : Int)] 137 (0, 0)) := h
theorem Wy.c0 {w : World} {g p l : Nat} (h : Wy w g p l) : w.cell? ⟨g, 0, none⟩ = some (.int .i64 (p : Int)) := by rw [cell_of_row w g 0 _ _ _ h]; rfl
theorem Wy.c1 {w : World} {g p l : Nat} (h : Wy w g p l) : w.cell? ⟨g, 1, none⟩ = some (.int .i64 (l : Int)) := by rw [cell_of_row w g 1 _ _ _ h]; rfl
theorem Wy.below {w w' : World} {g p l : Nat} (h : Wy w g p l) (hb : Below w.heap.size w w') : Wy w' g p l := (hb.block g (lt_of_heap h)).trans h
theorem Wy.set {w : World} {g p l : Nat} (h : Wy w g p l) (p' l' : Nat) : Wy (w.setRow g #[.int .i64 (p' : Int), .int .i64 (l' : Int)]) g p' l' := setRow_heap _ _ _ _ _ _ h
theorem Wy.setO {w : World} {g p l k : Nat} (h : Wy w g p l) (cs : Array Value) (hk : k ≠ g) : Wy (w.setRow k cs) g p l := (setRow_other w k g cs (Ne.symm hk)).trans h
theorem Wy.new (w : World) (p l : Nat) : Wy (w.alloc (.cells #[.int .i64 (p : Int), .int .i64 (l : Int)] 137)) w.heap.size p l := heap_alloc_new w _
def numAt (w : World) (g i : Nat) : Nat := match w.cell? ⟨g, i, none⟩ with | some (.int _ n) => n.toNat | _ => 0
theorem Wy.n0 {w : World} {g p l : Nat} (h : Wy w g p l) : numAt w g 0 = p := by unfold numAt; rw [h.c0]; exact Int.toNat_natCast _
theorem Wy.n1 {w : World} {g p l : Nat} (h : Wy w g p l) : numAt w g 1 = l := by unfold numAt; rw [h.c1]; exact Int.toNat_natCast _
set_option maxRecDepth 100000 in
set_option maxHeartbeats 2000000 in
theorem halved_any (p l : Nat) (hp : p < 9223372036854775808) (hl : l < 9223372036854775808) (w : World) :
    Calls Tryz.prog 118 #[wy p l] w fun e w' => e = .returned (wy (p / 2) (l / 2)) ∧ Below w.heap.size w w' := by
  have e1 := tdiv2 p
  have e2 := tdiv2 l
  have e3 := wrap2 p hp
  have e4 := wrap2 l hl
  go_enter Tryz.func118, Tryz.ntmps118
  go_wp2
  refine bodyPost_ret (v := wy (p / 2) (l / 2)) (results_cell_row rfl _ _ (w.heap.size + 1) 137 _ (0, 0) _ rfl (heap_alloc_at _ _ _ (size_alloc w _)) Tryz.underlying137 rfl sizeW) rfl ⟨rfl, ?_⟩
  exact ((Below.refl _ _).alloc (Nat.le_refl _) _).alloc (by rw [size_alloc]; omega) _
set_option maxRecDepth 100000 in
set_option maxHeartbeats 2000000 in
theorem fromLeft_any (p l : Nat) (hp : p < 9223372036854775808) (hl : l < 9223372036854775808) (w : World) :
    Calls Tryz.prog 115 #[wy p l] w fun e w' => e = .returned (.bool (p % 2 == 1 || p == l)) ∧ Below w.heap.size w w' := by
  have e1 : (p : Int).tmod 2 = ((p % 2 : Nat) : Int) := by rw [Int.tmod_eq_emod_of_nonneg (by omega)]; omega
  have e2 : IntKind.i64.wrap ((p % 2 : Nat) : Int) = ((p % 2 : Nat) : Int) := wrap_small _ (by omega) (by omega)
  by_cases ho : p % 2 = 1
  · have b0 : (((p % 2 : Nat) : Int) == 1) = true := by rw [ho]; rfl
    have e := hid (show (p % 2 == 1 || p == l) = true by simp [ho])
    go_enter Tryz.func115, Tryz.ntmps115
    go_wp2
    go_ret
    exact ⟨by rw [e.out]; rfl, (Below.refl _ _).alloc (Nat.le_refl _) _⟩
  · have b0 : (((p % 2 : Nat) : Int) == 1) = false := by simp; omega
    have b9 : ((p : Int) % 2 == 1) = false := by simp; omega
    have b8 : ¬ (p : Int) % 2 = 1 := by omega
    by_cases h : p = l
    · subst h
      have e := hid (show (p % 2 == 1 || p == p) = true by simp)
      go_enter Tryz.func115, Tryz.ntmps115
      go_wp2
      go_ret
      exact ⟨by rw [e.out]; rfl, (Below.refl _ _).alloc (Nat.le_refl _) _⟩
    · have e := hid (show (p % 2 == 1 || p == l) = false by simp [ho, h])
      have b1 : ((p : Int) == (l : Int)) = false := by simp; omega
      go_enter Tryz.func115, Tryz.ntmps115
      go_wp2
      go_ret
      exact ⟨by rw [e.out]; rfl, (Below.refl _ _).alloc (Nat.le_refl _) _⟩
set_option maxRecDepth 100000 in
set_option maxHeartbeats 2000000 in
theorem above_any (p l : Nat) (hp : p ≤ l) (h0 : l ≠ 0) (hl : l < 9223372036854775808) (w : World) :
    Calls Tryz.prog 117 #[wy p l] w fun e w' => ∃ p' l', e = .returned (wy p' l') ∧ Below w.heap.size w w' ∧ p' ≤ l' ∧ l' < l ∧ Hid (Tree.U p l = (p % 2 == 1 || p == l) :: Tree.U p' l') := by
  by_cases h : p = l
  · subst h
    have c0 := Wy.new w p p
    go_enter Tryz.func117, Tryz.ntmps117
    go_wp2
    go_loopw [] (fun w' => ∃ x : Nat, x ≠ 0 ∧ x ≤ p ∧ Hid (Tree.U p p = Tree.U x x) ∧ Hid (Wy w' w.heap.size x x) ∧ Hid (Wy w' (w.heap.size + 1) 0 0) ∧ Hid (Below w.heap.size w w')) (fun w' => numAt w' w.heap.size 0)
    case atStart =>
      have s1 := size_alloc w (.cells #[Value.int .i64 (p : Int), Value.int .i64 (p : Int)] 137)
      exact ⟨p, h0, Nat.le_refl _, rfl, (Below.heap_alloc _ _ _ (by omega)).trans (Wy.new w p p), heap_alloc_at _ _ _ s1, ((Below.refl _ _).alloc (Nat.le_refl _) _).alloc (by omega) _⟩
    case round =>
      obtain ⟨x, hx0, hxp, hU, hW, hR, hB⟩ := hrel
      have c0 := hW.out.c0
      have c1 := hW.out.c1
      have lt1 := lt_of_heap hW.out
      by_cases ho : x % 2 = 0
      · have b0 : (x : Int) % 2 = 0 := by omega
        have b1 : ((x : Int) % 2 == 0) = true := by simp; omega
        have b2 : ((x : Int) != 0) = true := by simp; omega
        have b3 : ((x : Int) == 0) = false := by simp; omega
        have hc := halved_any x x (by omega) (by omega) wr
        go_wp2_with (first
          | ((with_reducible show wpList _ _ _ (Oper.mk _ (Op.load 137 _) _ _ _ _ :: _) _ _); go_must (refine wpList_load_row rfl 137 _ rfl w.heap.size rfl 137 _ (0, 0) _ hW.out.row Tryz.underlying137 rfl (sizeW' _ _) ?_))
          | (go_at_call 118; refine hc.mono ?_; rintro e w1 ⟨rfl, hw1⟩)
          | ((with_reducible show wpList _ _ _ (Oper.mk _ (Op.store 137 _ _) _ _ _ _ :: _) _ _); go_must (refine wpList_store_row rfl 137 _ _ rfl w.heap.size _ rfl rfl 137 _ (hW.out.below hw1).row (sizeW' _ _) rfl (oneW _ _) ?_)))
        have hW1 := (hW.out.below hw1).set (x / 2) (x / 2)
        have hm : numAt (w1.setRow w.heap.size #[.int .i64 ((x / 2 : Nat) : Int), .int .i64 ((x / 2 : Nat) : Int)]) w.heap.size 0 < numAt wr w.heap.size 0 := by rw [hW1.n0, hW.out.n0]; omega
        refine ⟨?_, hm⟩
        repeat apply Exists.intro
        exact ⟨⟨x / 2, by omega, by omega, hid (hU.out.trans (Tree.U_skip hx0 ho)), hid hW1, hid ((hR.out.below hw1).setO _ (by omega)), hid (Below.setRow (hB.out.trans (hw1.mono hB.out.size)) (Nat.le_refl _) _)⟩, rfl⟩
      · have b0 : ¬ (x : Int) % 2 = 0 := by omega
        have b1 : ((x : Int) % 2 == 0) = false := by simp; omega
        have hc := halved_any x x (by omega) (by omega) wr
        go_wp2_with (first
          | ((with_reducible show wpList _ _ _ (Oper.mk _ (Op.load 137 _) _ _ _ _ :: _) _ _); go_must (refine wpList_load_row rfl 137 _ rfl w.heap.size rfl 137 _ (0, 0) _ hW.out.row Tryz.underlying137 rfl (sizeW' _ _) ?_))
          | (go_at_call 118; refine hc.mono ?_; rintro e w1 ⟨rfl, hw1⟩)
          | ((with_reducible show wpList _ _ _ (Oper.mk _ (Op.store 137 _ _) _ _ _ _ :: _) _ _); go_must (refine wpList_store_row rfl 137 _ _ rfl (w.heap.size + 1) _ rfl rfl 137 _ (hR.out.below hw1).row (sizeW' _ _) rfl (oneW _ _) ?_)))
        refine bodyPost_ret (v := wy (x / 2) (x / 2)) (results_cell_row rfl _ _ (w.heap.size + 1) 137 _ (0, 0) _ rfl ((hR.out.below hw1).set (x / 2) (x / 2)).row Tryz.underlying137 rfl sizeW) rfl ⟨x / 2, x / 2, rfl, ?_, Nat.le_refl _, by omega, ?_⟩
        · exact Below.setRow (hB.out.trans (hw1.mono hB.out.size)) (by omega) _
        · refine hid (hU.out.trans ?_)
          rw [Tree.U_step hx0 (by omega), show (x % 2 == 1) = true by simp; omega]
          simp
  · have b0 : ((p : Int) == (l : Int)) = false := by simp; omega
    have e := hid (show Tree.U p l = (p % 2 == 1 || p == l) :: Tree.U (p / 2) (l / 2) by rw [Tree.U_step h0 (by omega), show (p == l) = false by simpa using h, Bool.or_false])
    have hc := halved_any p l (by omega) hl
    have s1 := size_alloc w (.cells #[Value.int .i64 (p : Int), Value.int .i64 (l : Int)] 137)
    have hB : Hid (Below w.heap.size w ((w.alloc (.cells #[Value.int .i64 (p : Int), Value.int .i64 (l : Int)] 137)).alloc (.cells #[Value.int .i64 0, Value.int .i64 0] 137))) := ((Below.refl _ _).alloc (Nat.le_refl _) _).alloc (by omega) _
    have hR : Hid (Wy ((w.alloc (.cells #[Value.int .i64 (p : Int), Value.int .i64 (l : Int)] 137)).alloc (.cells #[Value.int .i64 0, Value.int .i64 0] 137)) (w.heap.size + 1) 0 0) := heap_alloc_at _ _ _ s1
    clear s1
    go_enter Tryz.func117, Tryz.ntmps117
    go_wp2_with (first
      | (go_at_call 118; refine (hc _).mono ?_; rintro e w1 ⟨rfl, hw1⟩)
      | ((with_reducible show wpList _ _ _ (Oper.mk _ (Op.store 137 _ _) _ _ _ _ :: _) _ _); go_must (refine wpList_store_row rfl 137 _ _ rfl (w.heap.size + 1) _ rfl rfl 137 _ (hR.out.below hw1).row (sizeW' _ _) rfl (oneW _ _) ?_)))
    refine bodyPost_ret (v := wy (p / 2) (l / 2)) (results_cell_row rfl _ _ (w.heap.size + 1) 137 _ (0, 0) _ rfl ((hR.out.below hw1).set (p / 2) (l / 2)).row Tryz.underlying137 rfl sizeW) rfl ⟨p / 2, l / 2, rfl, ?_, by omega, by omega, e⟩
    exact Below.setRow (hB.out.trans (hw1.mono hB.out.size)) (by omega) _
end Go.Proofs.YtenklmjeeejfdaaGreatDoor

namespace Go.Proofs.YtenklmjeeejfdaaGreatDoor
open Go.RowKit
set_option maxRecDepth 100000 in
set_option maxHeartbeats 2000000 in
theorem rsplit4_any (n : Nat) (h0 : 2 ≤ n) (h1 : n ≤ 4611686018427387903) (w : World) :
    Calls Tryz.prog 120 #[.int .i64 n] w fun e w' => e = .returned (.int .i64 (Tree.sp n : Nat)) ∧ w' = w := by
  go_enter Tryz.func120, Tryz.ntmps120
  go_wp2
  go_loopw [3] (fun k w' => ∃ a x : Nat, Hid (2 ^ a = x) ∧ k = .int .i64 (x : Int) ∧ x < n ∧ 0 < x ∧ w' = w) (fun k _ => n - (intOf k).toNat)
  case atStart => exact ⟨0, 1, rfl, rfl, by omega, by omega, rfl⟩
  case round =>
    obtain ⟨a, x, hx, rfl, hlt, hpos, rfl⟩ := hrel
    by_cases hk : 2 * (x : Int) < n
    · go_wp2
      exact ⟨⟨a + 1, 2 * x, by rw [Hid, Nat.pow_succ, hx.out, Nat.mul_comm], by go_num, by omega, by omega, trivial⟩, by simp [intOf]; omega⟩
    · have e := hid (show Tree.sp n = x by rw [Tree.sp_one h0 a (by rw [hx.out]; omega) (by rw [hx.out]; omega), hx.out])
      go_wp2
      go_ret
      exact ⟨by rw [e.out]; rfl, rfl⟩
set_option maxRecDepth 100000 in
set_option maxHeartbeats 2000000 in
theorem told_any : ∀ (f m n : Nat) (whole : Bool) (w : World), n ≤ f → n ≤ 1099511627776 → 1 ≤ m → m ≤ n →
    Calls Tryz.prog 119 #[.int .i64 m, .int .i64 n, .bool whole] w fun e w' => e = .returned (.int .i64 (Tree.pl m n whole : Nat)) ∧ w' = w := by
  intro f
  induction f with
  | zero => intro m n whole w hf _ h1 h2; omega
  | succ f ih =>
    intro m n whole w hf hn h1 h2
    by_cases h : m = n
    · subst h
      rw [Tree.pl_same]
      have b0 : ((m : Int) == (m : Int)) = true := by simp
      clear ih
      cases whole
      · go_enter Tryz.func119, Tryz.ntmps119
        go_wp2
        go_ret
        exact ⟨rfl, rfl⟩
      · go_enter Tryz.func119, Tryz.ntmps119
        go_wp2
        go_ret
        exact ⟨rfl, rfl⟩
    · have b0 : ((m : Int) == (n : Int)) = false := by simp; omega
      have k1 := Tree.sp_lt (n := n) (by omega)
      have k2 := Tree.sp_pos (n := n) (by omega)
      have hc := rsplit4_any n (by omega) (by omega)
      have pL := @Tree.pl_left m n h1 (by omega)
      have pR := @Tree.pl_right m n h1 (by omega)
      generalize Tree.sp n = k at *
      by_cases hm : m ≤ k
      · have b1 : (m : Int) ≤ (k : Int) := by omega
        have i1 := ih m k whole w (by omega) (by omega) h1 hm
        have i2 := Tree.pl_le _ m k whole (Nat.le_refl _) h1 hm
        have e := hid (pL hm whole)
        generalize Tree.pl m k whole = L at *
        generalize Tree.pl m n whole = R at *
        clear ih pL pR
        go_enter Tryz.func119, Tryz.ntmps119
        go_wp2_with (first
          | (go_at_call 120; refine (hc _).mono ?_; rintro e w' ⟨rfl, rfl⟩)
          | (go_at_call 119; refine i1.mono ?_; rintro e w' ⟨rfl, rfl⟩))
        go_ret
        exact ⟨by rw [e.out]; go_num, rfl⟩
      · have b1 : ¬ (m : Int) ≤ (k : Int) := by omega
        have i1 := ih (m - k) (n - k) false w (by omega) (by omega) (by omega) (by omega)
        have i2 := Tree.pl_le _ (m - k) (n - k) false (Nat.le_refl _) (by omega) (by omega)
        have e := hid (pR hm whole)
        rw [show ((m - k : Nat) : Int) = (m : Int) - (k : Int) from by omega, show ((n - k : Nat) : Int) = (n : Int) - (k : Int) from by omega] at i1
        generalize Tree.pl (m - k) (n - k) false = L at *
        generalize Tree.pl m n whole = R at *
        clear ih pL pR
        go_enter Tryz.func119, Tryz.ntmps119
        go_wp2_with (first
          | (go_at_call 120; refine (hc _).mono ?_; rintro e w' ⟨rfl, rfl⟩)
          | (go_at_call 119; refine i1.mono ?_; rintro e w' ⟨rfl, rfl⟩))
        go_ret
        exact ⟨by rw [e.out]; go_num, rfl⟩
def prfLen (m n : Int) : Int × Int := if m < 1 ∨ n < m ∨ 1099511627776 < n then (0, 41) else (Tree.pl m.toNat n.toNat true, 0)
set_option maxRecDepth 100000 in
set_option maxHeartbeats 2000000 in
theorem rProofLen_any (m n : Int) (w : World) :
    Calls Tryz.prog 95 #[.int .i64 m, .int .i64 n] w fun e w' => e = .returned (.tuple #[.int .i64 (prfLen m n).1, .int .i64 (prfLen m n).2]) ∧ w' = w := by
  by_cases h1 : m < 1
  · rw [prfLen, if_pos (Or.inl h1)]
    go_enter Tryz.func95, Tryz.ntmps95
    go_wp2
    go_ret2
    exact ⟨rfl, rfl⟩
  · by_cases h2 : n < m
    · rw [prfLen, if_pos (Or.inr (Or.inl h2))]
      go_enter Tryz.func95, Tryz.ntmps95
      go_wp2
      go_ret2
      exact ⟨rfl, rfl⟩
    · by_cases h3 : 1099511627776 < n
      · rw [prfLen, if_pos (Or.inr (Or.inr h3))]
        go_enter Tryz.func95, Tryz.ntmps95
        go_wp2
        go_ret2
        exact ⟨rfl, rfl⟩
      · rw [prfLen, if_neg (by omega)]
        have hc := told_any _ m.toNat n.toNat true w (Nat.le_refl _) (by omega) (by omega) (by omega)
        rw [Int.toNat_of_nonneg (by omega), Int.toNat_of_nonneg (by omega)] at hc
        generalize Tree.pl m.toNat n.toNat true = L at *
        go_enter Tryz.func95, Tryz.ntmps95
        go_wp2_with (go_at_call 119; refine hc.mono ?_; rintro e w' ⟨rfl, rfl⟩)
        go_ret2
        exact ⟨rfl, rfl⟩
end Go.Proofs.YtenklmjeeejfdaaGreatDoor
