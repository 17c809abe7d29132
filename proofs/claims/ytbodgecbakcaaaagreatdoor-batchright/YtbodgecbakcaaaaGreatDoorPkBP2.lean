import Derived.Test.YtbodgecbakcaaaaGreatDoorPkFS1
import Derived.Test.YtbodgecbakcaaaaGreatDoorPkFR1
import Derived.Deep.CutRange
import Derived.Deep.CutBlock
import Derived.Test.YtbodgecbakcaaaaGreatDoorPkSP18
import Derived.WalkMore
import Derived.ScopeJumps
namespace Go.Proofs.YtbodgecbakcaaaaGreatDoor
open Go.RowKit Go.Shelf
namespace Bat
set_option maxRecDepth 100000 in
set_option maxHeartbeats 4000000 in
theorem join_at {w : World} {b : Nat} {f : Kn} (M : Mk w b f) (T : Tabs w) {x0 x1 y0 y1 l0 l1 r0 r1 : Nat} (hl : Lo (l0, l1)) (hr : Lo (r0, r1)) {q : Bool} (hq : decide ((y0 : Int) < (x0 : Int)) = q) (hc : Hid (if q = true then l0 = y0 ∧ l1 = y1 ∧ r0 = x0 ∧ r1 = x1 else l0 = x0 ∧ l1 = x1 ∧ r0 = y0 ∧ r1 = y1)) {a c h : List UInt8} (fl : f (l0, l1) = some a) (fr : f (r0, r1) = some c) (hn : Hid (nodeOf a c = (h, 0))) :
    Calls Tryz.prog 74 #[.map (some b), sg x0 x1, sg y0 y1] w fun e w' => e = .returned (sg l0 r1) ∧ Mk w' b (upd f (l0, r1) h) ∧ But b w w' := by
  have hbs := M.lt
  have S0 := SpI.new w (x0 : Int) (x1 : Int)
  have B0 := (Below.refl w.heap.size w).alloc (Nat.le_refl _) (.cells #[Value.int .i64 (x0 : Int), .int .i64 (x1 : Int)] 62)
  go_enter Tryz.func74, Tryz.ntmps74
  go_upto_region 1 with fail
  obtain ⟨w3, hw3⟩ : ∃ w3, Hid ((((w.alloc (.cells #[.int .i64 (x0 : Int), .int .i64 (x1 : Int)] 62)).alloc (.cells #[.int .i64 (y0 : Int), .int .i64 (y1 : Int)] 62)).alloc (.cells #[.int .i64 0, .int .i64 0] 62)) = w3) := ⟨_, rfl⟩
  rw [hw3.out]
  have B3 : Hid (Below w.heap.size w w3) := by unfold Hid; rw [← hw3.out]; exact (B0.alloc (by rw [size_alloc]; omega) _).alloc (by rw [size_alloc, size_alloc]; omega) _
  have z3 : w3.heap.size = w.heap.size + 3 := by rw [← hw3.out]; simp
  have R0 : Hid (SpI w3 w.heap.size x0 x1) := by unfold Hid; rw [← hw3.out]; exact (S0.below ((Below.refl _ _).alloc (Nat.le_refl _) _)).below ((Below.refl _ _).alloc (Nat.le_refl _) _)
  have R1 : Hid (SpI w3 (w.heap.size + 1) y0 y1) := by
    unfold Hid; rw [← hw3.out]
    have := SpI.new (w.alloc (.cells #[.int .i64 (x0 : Int), .int .i64 (x1 : Int)] 62)) y0 y1
    rw [size_alloc] at this
    exact this.below ((Below.refl _ _).alloc (Nat.le_refl _) _)
  have R2 : Hid (SpI w3 (w.heap.size + 1 + 1) 0 0) := by
    unfold Hid; rw [← hw3.out]
    have := SpI.new ((w.alloc (.cells #[.int .i64 (x0 : Int), .int .i64 (x1 : Int)] 62)).alloc (.cells #[.int .i64 (y0 : Int), .int .i64 (y1 : Int)] 62)) 0 0
    rw [size_alloc, size_alloc] at this
    exact this
  have M3 := hid (M.below B3.out hbs)
  have T3 := hid (T.below B3.out T.lt)
  have hT := T.lt
  clear hw3 S0 B0 M T
  go_cut [7, 8] from 12 to 13 (fun u v w' => ∃ gl gr : Nat, u = .pointer (some ⟨gl, 0, none⟩) ∧ v = .pointer (some ⟨gr, 0, none⟩) ∧ gl ≠ gr ∧ w3.heap.size ≤ gl ∧ w3.heap.size ≤ gr ∧ Hid (SpI w' gl x0 x1) ∧ Hid (SpI w' gr y0 y1) ∧ Hid (Below w3.heap.size w3 w'))
  case first =>
    have c0 := R0.out.c0
    have c1 := R0.out.c1
    have d0 := R1.out.c0
    have d1 := R1.out.c1
    go_region
    all_goals go_wp2
    all_goals go_meet
    · refine ⟨_, _, rfl, rfl, by omega, by omega, by omega, ?_, ?_, ?_⟩
      · have := (SpI.new w3 (x0 : Int) (x1 : Int)).below ((Below.refl _ _).alloc (Nat.le_refl _) (.cells #[Value.int .i64 (y0 : Int), .int .i64 (y1 : Int)] 62))
        rw [z3] at this
        exact this
      · have := SpI.new (w3.alloc (.cells #[Value.int .i64 (x0 : Int), .int .i64 (x1 : Int)] 62)) (y0 : Int) (y1 : Int)
        rw [size_alloc, z3] at this
        exact this
      · exact (((Below.refl _ _).alloc (Nat.le_refl _) _).alloc (by rw [size_alloc]; omega) _).drew
    · refine ⟨_, _, rfl, rfl, by omega, by omega, by omega, ?_, ?_, ?_⟩
      · have := SpI.new (w3.alloc (.cells #[Value.int .i64 (y0 : Int), .int .i64 (y1 : Int)] 62)) (x0 : Int) (x1 : Int)
        rw [size_alloc, z3] at this
        exact this
      · have := (SpI.new w3 (y0 : Int) (y1 : Int)).below ((Below.refl _ _).alloc (Nat.le_refl _) (.cells #[Value.int .i64 (x0 : Int), .int .i64 (x1 : Int)] 62))
        rw [z3] at this
        exact this
      · exact (((Below.refl _ _).alloc (Nat.le_refl _) _).alloc (by rw [size_alloc]; omega) _).drew
  case rest =>
  obtain ⟨gl, gr, rfl, rfl, hne, h1, h2, HL, HR, HB⟩ := hcut
  have r0' := R0.out.below HB.out
  have r1' := R1.out.below HB.out
  have a0 := r0'.c0
  have a1 := r0'.c1
  have e0 := r1'.c0
  have e1 := r1'.c1
  have S2 := hid (R2.out.below HB.out)
  clear r0' r1' R0 R1 R2
  go_upto_if 18 with fail
  go_cut [] from 14 to 20 (fun w' => Hid (SpI w' gl l0 l1) ∧ Hid (SpI w' gr r0 r1) ∧ Hid (SpI w' (w.heap.size + 1 + 1) 0 0) ∧ Hid (Below w3.heap.size w3 w'))
  case first =>
    cases q
    · have hq := of_decide_eq_false hq
      obtain ⟨rfl, rfl, rfl, rfl⟩ := hc.out
      go_wp2
      go_meet
      exact ⟨HL, HR, S2, HB⟩
    · have hq := of_decide_eq_true hq
      obtain ⟨rfl, rfl, rfl, rfl⟩ := hc.out
      have u0 := HL.out.c0
      have u1 := HL.out.c1
      have v0 := HR.out.c0
      have v1 := HR.out.c1
      have p0 := HL.out.f0
      have p1 := HL.out.f1
      have q0 := HR.out.f0
      have q1 := HR.out.f1
      go_wp2
      go_region
      all_goals go_wp2
      all_goals go_meet
      have k1 := HL.out.two (l0 : Int) (l1 : Int)
      have k2 := (HR.out.far gl 0 (.int .i64 (l0 : Int)) (by omega)).far gl 1 (.int .i64 (l1 : Int)) (by omega)
      have k3 := k2.two (r0 : Int) (r1 : Int)
      have k4 := (k1.far gr 0 (.int .i64 (r0 : Int)) hne).far gr 1 (.int .i64 (r1 : Int)) hne
      have k5 := (((S2.out.far gl 0 (.int .i64 (l0 : Int)) (by omega)).far gl 1 (.int .i64 (l1 : Int)) (by omega)).far gr 0 (.int .i64 (r0 : Int)) (by omega)).far gr 1 (.int .i64 (r1 : Int)) (by omega)
      refine ⟨k4, k3, k5, ?_⟩
      exact (Below.setCell (p := ⟨gr, 1, none⟩) (Below.setCell (p := ⟨gr, 0, none⟩) (Below.setCell (p := ⟨gl, 1, none⟩) (Below.setCell (p := ⟨gl, 0, none⟩) HB.out h1 _) h1 _) h2 _) h2 _).drew
  case rest =>
  clear HL HR HB S2 a0 a1 e0 e1
  obtain ⟨HL, HR, S2, HB⟩ := hcut
  have u0 := HL.out.c0
  have u1 := HL.out.c1
  have v0 := HR.out.c0
  have v1 := HR.out.c1
  have hsz := HB.out.size
  have bb := (Below.refl wc.heap.size wc).alloc (Nat.le_refl _) (.cells #[.int .i64 (l0 : Int), .int .i64 (r1 : Int)] 62)
  have L5 := hid (HL.out.below bb)
  have R5 := hid (HR.out.below bb)
  have S5 := hid (S2.out.below bb)
  have D5 := hid (SpI.new wc (l0 : Int) (r1 : Int))
  have B5 := hid (HB.out.trans (bb.mono hsz))
  have M5 := hid (M3.out.below B5.out M3.out.lt)
  have T5 := hid (T3.out.below B5.out T3.out.lt)
  clear bb HL HR S2 M3 T3
  go_wp2
  have z5 : (wc.alloc (.cells #[.int .i64 (l0 : Int), .int .i64 (r1 : Int)] 62)).heap.size = wc.heap.size + 1 := by simp
  generalize wc.alloc (.cells #[.int .i64 (l0 : Int), .int .i64 (r1 : Int)] 62) = w5 at *
  have fact : ∀ w', Mk w' b f → SpI w' gl l0 l1 → SpI w' gr r0 r1 → w'.cell? ⟨gl, 0, none⟩ = some (.int .i64 (l0 : Int)) ∧ w'.cell? ⟨gl, 1, none⟩ = some (.int .i64 (l1 : Int)) ∧ w'.cell? ⟨gr, 0, none⟩ = some (.int .i64 (r0 : Int)) ∧ w'.cell? ⟨gr, 1, none⟩ = some (.int .i64 (r1 : Int)) ∧
      (Instr.lookup 74 (.map (some b)) (.agg #[.int .i64 (l0 : Int), .int .i64 (l1 : Int)]) false).run Tryz.prog w' = .ok (.agg #[.string ⟨a.toArray⟩]) w' ∧ (Instr.lookup 74 (.map (some b)) (.agg #[.int .i64 (r0 : Int), .int .i64 (r1 : Int)]) false).run Tryz.prog w' = .ok (.agg #[.string ⟨c.toArray⟩]) w' := fun w' m l r =>
    ⟨l.c0, l.c1, r.c0, r.c1, m.get hl fl, m.get hr fr⟩
  have hf1 := field_hash ⟨a.toArray⟩
  have hf2 := field_hash ⟨c.toArray⟩
  have x5 := fact w5.drew (M5.out.heap rfl) L5.out R5.out
  have i1 := node_at hn w5.drew (T5.out.below ((Below.refl _ w5).drew) T5.out.lt)
  rw [show sv a = Value.string ⟨a.toArray⟩ from rfl, show sv c = Value.string ⟨c.toArray⟩ from rfl, show sv h = Value.string ⟨h.toArray⟩ from rfl] at i1
  go_region_held3 (fun w' => w'.cell? ⟨gl, 0, none⟩ = some (.int .i64 (l0 : Int)) ∧ w'.cell? ⟨gl, 1, none⟩ = some (.int .i64 (l1 : Int)) ∧ w'.cell? ⟨gr, 0, none⟩ = some (.int .i64 (r0 : Int)) ∧ w'.cell? ⟨gr, 1, none⟩ = some (.int .i64 (r1 : Int)) ∧
      (Instr.lookup 74 (.map (some b)) (.agg #[.int .i64 (l0 : Int), .int .i64 (l1 : Int)]) false).run Tryz.prog w' = .ok (.agg #[.string ⟨a.toArray⟩]) w' ∧ (Instr.lookup 74 (.map (some b)) (.agg #[.int .i64 (r0 : Int), .int .i64 (r1 : Int)]) false).run Tryz.prog w' = .ok (.agg #[.string ⟨c.toArray⟩]) w') (first | exact x6 | exact x5) (first | (go_at_call 84; refine i1.mono ?_; rintro e w6 ⟨rfl, h6⟩; have B6 := hid (drewBelow8 h6); have L6 := hid (L5.out.below B6.out); have R6 := hid (R5.out.below B6.out); have x6 := fact w6 (M5.out.below B6.out M5.out.lt) L6.out R6.out))
  all_goals
    have M6 := M5.out.below B6.out M5.out.lt
    obtain ⟨w7, hup, M7, bt7, sz7⟩ := M6.put (s := (l0, r1)) (show Lo (l0, r1) from ⟨hl.1, hr.2⟩) h
    rw [show sv h = Value.string ⟨h.toArray⟩ from rfl] at hup
    have s5 := B6.out.size
    have D7 := (But.keep12 bt7).block wc.heap.size (by omega) (by omega)
    have D7' : Hid (SpI w7 wc.heap.size l0 r1) := D7.trans (D5.out.below B6.out)
    have S7 : Hid (SpI w7 (w.heap.size + 1 + 1) 0 0) := ((But.keep12 bt7).block (w.heap.size + 1 + 1) (by omega) (by omega)).trans (S5.out.below B6.out)
    have D6 := D5.out.below B6.out
    have y0 := D6.c0
    have y1 := D6.c1
    clear D6
    have d0 := D7'.out.c0
    have d1 := D7'.out.c1
    have t0 := S7.out.f0
    have t1 := S7.out.f1
    have t2 := S7.out.c0
    have t3 := S7.out.c1
    have HM7 := hid M7
    have BT := hid ((But.ofBelow (b := b) (B3.out.trans ((B5.out.mono B3.out.size).trans (B6.out.mono (by have := B3.out.size; omega))))).trans bt7)
    clear x5 x6 i1 h6 fact M6 D7 M7 bt7 u0 u1 v0 v1 hf1 hf2
    go_wp2
    have Q := S7.out.two (l0 : Int) (r1 : Int)
    refine bodyPost_ret (v := sg l0 r1) (results_cell_row rfl _ _ (w.heap.size + 1 + 1) 62 _ (0, 0) _ rfl Q Tryz.underlying62 rfl sizeSp) rfl ⟨rfl, ?_, ?_⟩
    · refine HM7.out.heap ?_
      exact (Below.heap_setCell _ _ _ b (by show b ≠ w.heap.size + 1 + 1; omega)).trans (Below.heap_setCell _ _ _ b (by show b ≠ w.heap.size + 1 + 1; omega))
    · have b1 : Below w.heap.size w7 ((w7.setCell ⟨w.heap.size + 1 + 1, 0, none⟩ (.int .i64 (l0 : Int))).setCell ⟨w.heap.size + 1 + 1, 1, none⟩ (.int .i64 (r1 : Int))) := Below.setCell (p := ⟨w.heap.size + 1 + 1, 1, none⟩) (Below.setCell (p := ⟨w.heap.size + 1 + 1, 0, none⟩) (Below.refl _ _) (by show w.heap.size ≤ w.heap.size + 1 + 1; omega) _) (by show w.heap.size ≤ w.heap.size + 1 + 1; omega) _
      exact ⟨b1.os.trans BT.out.os, b1.tape.trans BT.out.tape, b1.output.trans BT.out.output, Nat.le_trans BT.out.size b1.size, fun k hk hne => (b1.block k hk).trans (BT.out.block k hk hne)⟩
end Bat
end Go.Proofs.YtbodgecbakcaaaaGreatDoor

namespace Go.Proofs.YtbodgecbakcaaaaGreatDoor
open Go.RowKit Go.Shelf
namespace Bat
theorem ownP_at {w : World} {a : Option Addr} {c n : Nat} {l : List (Nat × Nat)} (h : OwnP w (.slice a n c) l) {j : Nat} {s : Nat × Nat} (hj : l[j]? = some s) : ∃ g, a = some ⟨g, 0, none⟩ ∧ g < w.heap.size ∧ w.cell? ⟨g, j * 2, none⟩ = some (.int .i64 (s.1 : Int)) ∧ w.cell? ⟨g, j * 2 + 1, none⟩ = some (.int .i64 (s.2 : Int)) := by
  obtain ⟨g, cap, e, c0, hg⟩ := h.cell (prs_get hj).1
  obtain ⟨g', cap', e', c1, _⟩ := h.cell (prs_get hj).2
  injection e with e
  injection e' with e'
  rw [e] at e'
  injection e' with e'
  injection e' with e'
  subst e'
  exact ⟨g, e, hg, c0, c1⟩
def vpre {α : Type} (f : α → List UInt8) (S : List α) (k : Nat) : List (List UInt8) := (S.take k).map f ++ List.replicate (S.length - k) []
theorem vpre_zero {α : Type} (f : α → List UInt8) (S : List α) : vpre f S 0 = List.replicate S.length [] := by simp [vpre]
theorem vpre_all {α : Type} (f : α → List UInt8) (S : List α) : vpre f S S.length = S.map f := by simp [vpre]
theorem vpre_len {α : Type} (f : α → List UInt8) (S : List α) {k : Nat} (hk : k ≤ S.length) : (vpre f S k).length = S.length := by simp [vpre]; omega
theorem vpre_set {α : Type} (f : α → List UInt8) (S : List α) {k : Nat} (hk : k < S.length) : (vpre f S k).set k (f S[k]) = vpre f S (k + 1) := by
  unfold vpre
  obtain ⟨m, hm⟩ : ∃ m, S.length - k = m + 1 := ⟨S.length - k - 1, by omega⟩
  have h1 : ((S.take k).map f).length = k := by simp; omega
  rw [hm, show S.length - (k + 1) = m by omega, List.replicate_succ, List.set_append, if_neg (by omega), h1, Nat.sub_self, List.set_cons_zero, List.take_add_one, List.getElem?_eq_getElem hk, List.map_append, List.append_assoc]
  rfl
set_option maxRecDepth 100000 in
set_option maxHeartbeats 2000000 in
theorem khashes12_any {w : World} {b : Nat} {f : Kn} {val : Nat × Nat → List UInt8} (M : Mk w b f) (S : List (Nat × Nat)) (v : Value) (hv : OwnP w v S) (hS : ∀ s ∈ S, Lo s ∧ f s = some (val s)) (hl : S.length ≤ 2000000) :
    Calls Tryz.prog 40 #[.map (some b), v] w fun r w' => r = .returned (.slice (some ⟨w.heap.size, 0, none⟩) S.length S.length) ∧ Row w' w.heap.size (S.map val) ∧ Below w.heap.size w w' := by
  obtain ⟨a, c, rfl, hc1, hc2⟩ := OwnM.shape hv
  have mk := make_texts w S.length (by omega)
  have A0 := hid hv
  have HM := hid M
  have hbl := M.lt
  have HS := hid hS
  obtain ⟨n, hn⟩ : ∃ n, S.length = n := ⟨_, rfl⟩
  have HN := hid hn
  rw [hn] at mk hl hc1 ⊢
  have R0 : Hid (Row (w.alloc (.cells (svs (List.replicate n [])).toArray 9)) w.heap.size (vpre val S 0)) := by
    have := heap_alloc_new w (.cells (svs (List.replicate n [])).toArray 9)
    unfold Hid Row
    rw [vpre_zero, hn]
    exact this
  have B0 := hid ((Below.refl w.heap.size w).alloc (Nat.le_refl _) (.cells (svs (List.replicate n [])).toArray 9))
  clear M hS hv hn
  go_enter Tryz.func40, Tryz.ntmps40
  go_wp2
  go_loopw [6, 7, 13] (fun _ _ i w' => ∃ k : Nat, k ≤ n ∧ i = .int .i64 (k : Int) ∧ Hid (Row w' w.heap.size (vpre val S k)) ∧ Hid (Below w.heap.size w w')) (fun _ _ i _ => n - (intOf i).toNat)
  case atStart => exact ⟨0, by omega, rfl, R0, B0⟩
  case round =>
    clear R0 B0
    obtain ⟨k, hk, rfl, hR, hB⟩ := hrel
    by_cases hkn : k < n
    · have b0 : (k : Int) < (n : Int) := by omega
      have j0 : (0 : Int) ≤ (k : Int) := by omega
      have hkS : k < S.length := by rw [HN.out]; exact hkn
      obtain ⟨g, rfl, hg, c0, c1⟩ := ownP_at (A0.out.below hB.out) (List.getElem?_eq_getElem hkS)
      have hs := HS.out S[k] (List.getElem_mem hkS)
      have hset := hid (vpre_set val S hkS)
      have hlen := vpre_len val S (Nat.le_of_lt hkS)
      have hbs := (Below.refl wr.heap.size wr).alloc (Nat.le_refl _) (.cells #[.int .i64 (S[k].1 : Int), .int .i64 (S[k].2 : Int)] 62)
      have s0 := SpI.new wr (S[k].1 : Int) (S[k].2 : Int)
      have sc0 := s0.c0
      have sc1 := s0.c1
      have b1 := hB.out.trans (hbs.mono hB.out.size)
      have R1 := hR.out.below hbs hR.out.lt
      have hlk := (HM.out.below b1 hbl).get hs.1 hs.2
      have f2 := R1.free (j := k) (by rw [hlen, HN.out]; exact hkn)
      have d2 := R1.cell (List.getElem?_eq_getElem (show k < (vpre val S k).length by rw [hlen, HN.out]; exact hkn))
      generalize (S[k].1 : Int) = q0 at *
      generalize (S[k].2 : Int) = q1 at *
      generalize val S[k] = r at *
      rw [show sv r = Value.string ⟨r.toArray⟩ from rfl] at hlk
      have hf1 := field_hash ⟨r.toArray⟩
      have B1 := hid b1
      have HR1 := hid R1
      clear hs hbs s0 hR hB b1 R1
      go_wp2
      refine ⟨⟨k + 1, by omega, by go_num, ?_, ?_⟩, by simp [intOf]; omega⟩
      · have := HR1.out.set k r
        rw [hset.out] at this
        exact this
      · exact Below.setCell (p := ⟨w.heap.size, k, none⟩) B1.out (Nat.le_refl _) _
    · obtain rfl : k = n := by omega
      have b0 : ¬ (k : Int) < (k : Int) := by omega
      go_wp2
      go_ret
      have := hR.out
      rw [← HN.out, vpre_all] at this
      exact ⟨rfl, this, hB.out⟩
end Bat
end Go.Proofs.YtbodgecbakcaaaaGreatDoor

namespace Go.Proofs.YtbodgecbakcaaaaGreatDoor
open Go.RowKit Go.Shelf
namespace Bat
theorem jn_lo {a b : Nat × Nat} (ha : Lo a) (hb : Lo b) : Lo (jn a b) := by unfold jn Lo at *; split <;> simp <;> omega
theorem jl_is (a b : Nat × Nat) : jl a b = a ∨ jl a b = b := by unfold jl; split <;> simp
theorem jr_is (a b : Nat × Nat) : jr a b = a ∨ jr a b = b := by unfold jr; split <;> simp
theorem pth_lo : ∀ (f b n i : Nat), ∀ s ∈ Tree.pthF f b n i, b ≤ s.1 ∧ s.1 ≤ s.2 ∧ s.2 ≤ b + n
  | 0, b, n, i, s, h => by cases h
  | f + 1, b, n, i, s, h => by
    by_cases h2 : n < 2
    · rw [Tree.pthF_small h2] at h; cases h
    · have s1 := Tree.sp_lt (n := n) (by omega)
      have s2 := Tree.sp_pos (n := n) (by omega)
      by_cases hi : i < b + Tree.sp n
      · rw [Tree.pthF_left (by omega) hi] at h
        rcases List.mem_append.1 h with h | h
        · have := pth_lo f b (Tree.sp n) i s h
          omega
        · obtain rfl := List.mem_singleton.1 h
          exact ⟨by show b ≤ b + Tree.sp n; omega, by show b + Tree.sp n ≤ b + n; omega, by show b + n ≤ b + n; omega⟩
      · rw [Tree.pthF_right (by omega) hi] at h
        rcases List.mem_append.1 h with h | h
        · have := pth_lo f (b + Tree.sp n) (n - Tree.sp n) i s h
          omega
        · obtain rfl := List.mem_singleton.1 h
          exact ⟨by show b ≤ b; omega, by show b ≤ b + Tree.sp n; omega, by show b + Tree.sp n ≤ b + n; omega⟩
theorem path_lo {n i : Nat} (hn : n ≤ 1099511627776) : ∀ s ∈ Tree.pthF n 0 n i, Lo s := fun s hs => by
  have := pth_lo n 0 n i s hs
  unfold Lo; omega
set_option maxRecDepth 100000 in
set_option maxHeartbeats 4000000 in
theorem join12_any {w : World} {b : Nat} {f : Kn} (M : Mk w b f) (T : Tabs w) {o s : Nat × Nat} (ho : Lo o) (hs : Lo s) (fo : f o ≠ none) (fs : f s ≠ none) (h32 : W32 f) :
    Calls Tryz.prog 74 #[.map (some b), sg o.1 o.2, sg s.1 s.2] w fun e w' => e = .returned (sg (jn o s).1 (jn o s).2) ∧ Mk w' b (upd f (jn o s) (Tree.nd ((f (jl o s)).getD []) ((f (jr o s)).getD []))) ∧ W32 (upd f (jn o s) (Tree.nd ((f (jl o s)).getD []) ((f (jr o s)).getD []))) ∧ Keep (fun k => k = b) w w' := by
  obtain ⟨a, ha⟩ : ∃ a, f (jl o s) = some a := by
    rcases jl_is o s with e | e <;> rw [e]
    · exact Option.ne_none_iff_exists'.1 fo
    · exact Option.ne_none_iff_exists'.1 fs
  obtain ⟨c, hc⟩ : ∃ c, f (jr o s) = some c := by
    rcases jr_is o s with e | e <;> rw [e]
    · exact Option.ne_none_iff_exists'.1 fo
    · exact Option.ne_none_iff_exists'.1 fs
  have hn : Hid (nodeOf a c = (Tree.nd a c, 0)) := node_ok (h32 _ _ ha) (h32 _ _ hc)
  have lb : Lo (jl o s) := by rcases jl_is o s with e | e <;> rw [e] <;> assumption
  have rb : Lo (jr o s) := by rcases jr_is o s with e | e <;> rw [e] <;> assumption
  have := join_at M T (x0 := o.1) (x1 := o.2) (y0 := s.1) (y1 := s.2) (l0 := (jl o s).1) (l1 := (jl o s).2) (r0 := (jr o s).1) (r1 := (jr o s).2) lb rb rfl (by
    unfold Hid
    by_cases q : s.1 < o.1
    · rw [if_pos (decide_eq_true (by omega))]; unfold jl jr; rw [if_pos q, if_pos q]; exact ⟨rfl, rfl, rfl, rfl⟩
    · rw [if_neg (by simp; omega)]; unfold jl jr; rw [if_neg q, if_neg q]; exact ⟨rfl, rfl, rfl, rfl⟩) ha hc hn
  have ej : ((jl o s).1, (jr o s).2) = jn o s := by unfold jl jr jn; split <;> rfl
  refine this.mono ?_
  rintro e w' ⟨rfl, h1, h2⟩
  rw [ej] at h1
  rw [ha, hc]
  exact ⟨by rw [← ej], h1, h32.upd _ (Tree.nd_length (h32 _ _ ha) (h32 _ _ hc)), But.keep12 h2⟩
end Bat
end Go.Proofs.YtbodgecbakcaaaaGreatDoor

namespace Go.Proofs.YtbodgecbakcaaaaGreatDoor
open Go.RowKit Go.Shelf
namespace Bat
theorem clm_miss {g : Kn} {o s : Nat × Nat} {P : List (Nat × Nat)} (h : g s = none) : (clm g o (s :: P)).1 = g := by rw [clm, if_pos h]
theorem clm_hit {g : Kn} {o s : Nat × Nat} {P : List (Nat × Nat)} (h : g s ≠ none) : clm g o (s :: P) = clm (upd g (jn o s) (Tree.nd ((g (jl o s)).getD []) ((g (jr o s)).getD []))) (jn o s) P := by rw [clm, if_neg h]
theorem keep_two (w : World) (g : Nat) (v u : Value) : Keep (fun k => k = g) w ((w.setCell ⟨g, 0, none⟩ v).setCell ⟨g, 1, none⟩ u) :=
  (Keep.ofSet (S := fun k => k = g) w g 0 v rfl).trans (Keep.ofSet (S := fun k => k = g) _ g 1 u rfl) fun _ _ e => e
theorem d_len12 {n m : Nat} (hn : n ≤ 1099511627776) (hm : m < n) : (Tree.D n m).length ≤ 1000 := by
  rw [Tree.D_U n n m (Nat.le_refl _) hm]
  have := Tree.U_len 41 m (n - 1) (by omega)
  omega
theorem pthF_short12 : ∀ (f b n i : Nat), n ≤ f → n ≤ 1099511627776 → b ≤ i → i < b + n → (Tree.pthF f b n i).length ≤ 2000000 := fun f b n i hf hn hb hi => by
  rw [Tree.pthF_len f b n i hf hb]
  have := d_len12 hn (show i - b < n by omega)
  omega
set_option maxRecDepth 100000 in
set_option maxHeartbeats 8000000 in
theorem climb12_any {w : World} {b : Nat} {f : Kn} (M : Mk w b f) (T : Tabs w) (hb : 4 ≤ b) {n : Nat} (hn : n ≤ 1099511627776) {is : List Nat} {val : Nat × Nat → List UInt8} (hv : ∀ b m, 2 ≤ m → Tree.tch is b (b + m) = true → val (b, b + m) = Tree.nd (val (b, b + Tree.sp m)) (val (b + Tree.sp m, b + m))) (hp : is.Pairwise (· < ·)) (hin : ∀ i ∈ is, i < n) (hil : is.length ≤ 256) (C : Cl is n val 0 f) (h32 : W32 f) (a : Option Addr) (cap : Nat) (hA : ∀ w', Keep (fun k => k = b) w w' → AtI w' a (ix is)) :
    Calls Tryz.prog 57 #[.map (some b), .int .i64 (n : Int), .slice a is.length cap] w fun r w' => r = .returned (.tuple #[]) ∧ ∃ g, Mk w' b g ∧ Cl is n val is.length g ∧ W32 g ∧ Keep (fun k => k = b) w w' := by
  have hbl := M.lt
  have HM := hid M
  have HT := hid T
  have HC := hid C
  have HW := hid h32
  have HA := hid hA
  have HV := hid hv
  have HP := hid hp
  have HI := hid hin
  have hT := T.lt
  obtain ⟨m, hm⟩ : ∃ m, is.length = m := ⟨_, rfl⟩
  have Hm := hid hm
  rw [hm] at hil ⊢
  have hmi : Hid ((ix is).length = m) := by unfold Hid; rw [← hm]; simp [ix]
  clear M T C h32 hA hv hp hin hm
  go_enter Tryz.func57, Tryz.ntmps57
  go_wp2
  go_loopw [7, 8, 10, 11, 12, 15] (fun _ _ _ _ _ i w' => ∃ (k : Nat) (g : Kn), k ≤ m ∧ i = .int .i64 (k : Int) ∧ Hid (Mk w' b g) ∧ Hid (Cl is n val k g) ∧ Hid (W32 g) ∧ Hid (Keep (fun k => k = b) w w')) (fun _ _ _ _ _ i _ => m - (intOf i).toNat)
  case atStart => exact ⟨0, f, by omega, rfl, HM, HC, HW, Keep.refl _ _⟩
  case round =>
    clear HM HC HW
    obtain ⟨k, g, hk, rfl, HM, HC, HW, HK⟩ := hrel
    by_cases hkm : k < m
    · have b0 : (k : Int) < (m : Int) := by omega
      have hki : k < is.length := by rw [Hm.out]; exact hkm
      have hAr := HA.out _ HK.out
      obtain ⟨x, rfl⟩ := hAr.pos (by rw [hmi.out]; omega)
      have c0 := hAr.cell k (by rw [hmi.out]; exact hkm)
      have ei : is[k]? = some is[k] := List.getElem?_eq_getElem hki
      have hin := HI.out is[k] (List.getElem_mem hki)
      rw [show (ix is)[k]'(by rw [hmi.out]; exact hkm) = ((is[k] : Nat) : Int) by simp [ix]] at c0
      have CN := hid (HC.out.next HV.out HP.out HI.out ei)
      have hl0 : Hid (g (is[k], is[k] + 1) ≠ none) := HC.out.l is[k] (List.getElem_mem hki)
      generalize is[k] = i at *
      have i1 := alone12_any i (by omega) wr
      obtain ⟨P, hP⟩ : ∃ P, Hid (Tree.pthF n 0 n i = P) := ⟨_, rfl⟩
      have i2 := fun w' => beside12_any n i hin hn w'
      have PL : Hid (∀ s ∈ P, Lo s) := by unfold Hid; rw [← hP.out]; exact path_lo hn
      have hPl : P.length ≤ 2000000 := by rw [← hP.out]; exact pthF_short12 n 0 n i (Nat.le_refl _) hn (by omega) (by omega)
      rw [hP.out] at i2 CN
      have hbr := HM.out.lt
      have zw := HK.out.size
      have HTr := hid (tabs_keep HT.out HK.out (fun k e => by rw [e]; exact hb))
      clear hAr ei HC hP
      go_wp2
      refine wp_scope_jumps 0 (fun a' w' => (∃ h, Hid (Mk w' b h) ∧ Hid (W32 h) ∧ Hid ((clm g (i, i + 1) P).1 = h) ∧ Hid (Keep (fun k => k = b) w w')) ∧ ∃ (u8 u10 u11 u12 u19 u20 u21 u22 u23 u24 u25 u26 u27 u28 u29 u30 u31 u32 u33 u34 u35 u36 u37 u38 u39 u40 u41 u42 : Value), a' = { tmps := #[.map (some b), .int .i64 (n : Int), .slice (some x) m cap, undef, undef, undef, undef, .int .i64 (i : Int), u8, undef, u10, u11, u12, .slice (some x) m cap, .int .i64 (m : Int), .int .i64 (k : Int), .bool true, .pointer (some (x.add k)), .int .i64 (i : Int), u19, u20, u21, u22, u23, u24, u25, u26, u27, u28, u29, u30, u31, u32, u33, u34, u35, u36, u37, u38, u39, u40, u41, u42], defers := [] }) (fun _ _ => 0) rfl ?_ ?_
      case refine_2 =>
        rintro a' w' ⟨⟨h, hM, hW, hE, hK⟩, u8, u10, u11, u12, u19, u20, u21, u22, u23, u24, u25, u26, u27, u28, u29, u30, u31, u32, u33, u34, u35, u36, u37, u38, u39, u40, u41, u42, rfl⟩
        rw [hE.out] at CN
        go_wp2
        simp only [Exit.jump]
        go_wp2
        exact ⟨⟨k + 1, h, by omega, by go_num, hM, CN, hW, hK⟩, by simp [intOf]; omega⟩
      go_wp2_with (first
        | (go_at_call 56; refine i1.mono ?_; rintro r w1 ⟨rfl, b1⟩; have B1 := hid b1; clear b1)
        | (go_at_call 41; fail))
      have bo := (Below.refl w1.heap.size w1).alloc (Nat.le_refl _) (.cells #[.int .i64 (i : Int), .int .i64 ((i : Int) + 1)] 62)
      have O1 := hid (SpI.new w1 (i : Int) ((i : Int) + 1))
      have z1 := B1.out.size
      have B2 := hid (B1.out.trans (bo.mono z1))
      have z2 : (w1.alloc (.cells #[.int .i64 (i : Int), .int .i64 ((i : Int) + 1)] 62)).heap.size = w1.heap.size + 1 := by simp
      clear bo i1 B1
      generalize w1.alloc (.cells #[.int .i64 (i : Int), .int .i64 ((i : Int) + 1)] 62) = w2 at *
      refine (i2 w2).mono ?_
      rintro r w3 ⟨b3, v3, rfl, o3, f3⟩
      obtain ⟨a3, c3, rfl, hc31, hc32⟩ := OwnM.shape o3
      have z3 := b3.size
      have B3 := hid (B2.out.trans (b3.mono (by omega)))
      have O3 : Hid (SpI w3 w1.heap.size (i : Int) ((i + 1 : Nat) : Int)) := by
        have := O1.out.below b3
        rw [show ((i : Int) + 1) = ((i + 1 : Nat) : Int) by omega] at this
        exact this
      have V3 := hid o3
      have VB : Hid (∀ k, (Value.slice a3 P.length c3).ownBlock = some k → ¬ (k = b ∨ k = w1.heap.size)) := by
        unfold Hid
        intro k hk
        have := f3 k hk
        omega
      obtain ⟨N, hN⟩ : ∃ N, P.length = N := ⟨_, rfl⟩
      have HN := hid hN
      rw [hN] at hPl
      rw [hN]
      have M3 := hid (HM.out.below B3.out hbr)
      have T3 := hid (HTr.out.below B3.out HTr.out.lt)
      have K3 := hid (HK.out.trans (Keep.ofBelow (S := fun k => k = b) B3.out) fun _ _ e => e)
      clear i2 b3 o3 hN B2 O1 HM HTr HK
      go_wp2
      go_loopw [10, 11, 12, 25] (fun _ _ _ j w' => ∃ (J : Nat) (h : Kn) (o : Nat × Nat), J ≤ N ∧ j = .int .i64 (J : Int) ∧ Hid (Mk w' b h) ∧ Hid (W32 h) ∧ Hid (h o ≠ none) ∧ Hid (Lo o) ∧ Hid (SpI w' w1.heap.size (o.1 : Int) (o.2 : Int)) ∧ Hid (Keep (fun k => k = b ∨ k = w1.heap.size) w3 w') ∧ Hid ((clm g (i, i + 1) P).1 = (clm h o (P.drop J)).1)) (fun _ _ _ j _ => N - (intOf j).toNat)
      case atStart => exact ⟨0, g, (i, i + 1), by omega, rfl, M3, HW, hl0, ⟨by show i ≤ _; omega, by show i + 1 ≤ _; omega⟩, O3, Keep.refl _ _, rfl⟩
      case round =>
        clear M3 O3 HW hl0
        obtain ⟨J, h, o, hJ, rfl, hM, hW, hO, hLo, hS, hKq, hE⟩ := hrel
        by_cases hJN : J < N
        · have e0 : (J : Int) < (N : Int) := by omega
          have hJP : J < P.length := by rw [HN.out]; exact hJN
          obtain ⟨gp, rfl, hgp, p0, p1⟩ := ownP_at (V3.out.keep hKq.out fun k hk => VB.out k hk) (List.getElem?_eq_getElem hJP)
          have hls := PL.out P[J] (List.getElem_mem hJP)
          have hdr := hid (List.drop_eq_getElem_cons hJP)
          have PLs := PL
          generalize P[J] = s at *
          have bb := ((Below.refl wr.heap.size wr).alloc (Nat.le_refl _) (.cells #[.int .i64 (s.1 : Int), .int .i64 (s.2 : Int)] 62))
          have s0 := SpI.new wr (s.1 : Int) (s.2 : Int)
          have sc0 := s0.c0
          have sc1 := s0.c1
          have zq := hKq.out.size
          have hb2 : b ≠ w1.heap.size := by omega
          have M1 := hM.out.below bb hM.out.lt
          obtain ⟨y, hok⟩ := M1.ok hls
          have b2 : Below wr.heap.size wr ((wr.alloc (.cells #[.int .i64 (s.1 : Int), .int .i64 (s.2 : Int)] 62)).alloc (.cells #[.string y] 80)) := bb.alloc (by rw [size_alloc]; omega) _
          have M2 := hid (hM.out.below b2 hM.out.lt)
          have S2 := hid (s0.below ((Below.refl _ _).alloc (Nat.le_refl _) (.cells #[.string y] 80)))
          have O2 := hid (hS.out.below b2)
          have K2 := hid (hKq.out.trans (Keep.ofBelow (S := fun k => k = b ∨ k = w1.heap.size) b2) fun _ _ e => e)
          have q0 := S2.out.c0
          have q1 := S2.out.c1
          have q2 := O2.out.c0
          have q3 := O2.out.c1
          have q4 := O2.out.f0
          have q5 := O2.out.f1
          by_cases hno : h s = none
          · rw [hno, Option.isSome_none] at hok
            have hfin : Hid ((clm g (i, i + 1) P).1 = h) := by unfold Hid; rw [hE.out, hdr.out, clm_miss hno]
            have KK := hid (K3.out.trans K2.out fun k hk e => by
              rcases e with e | e
              · exact e
              · omega)
            clear hE hdr hM hS hKq bb b2 s0 M1
            go_wp2
            go_step3
            exact ⟨rfl, ⟨h, M2, hW, hfin, KK⟩, _, _, _, _, _, _, _, _, _, _, _, _, _, _, _, _, _, _, _, _, _, _, _, _, _, _, _, _, rfl⟩
          · have hyes : (h s).isSome = true := by cases e : h s with
              | none => exact absurd e hno
              | some z => rfl
            rw [hyes] at hok
            have hfin : Hid ((clm g (i, i + 1) P).1 = (clm (upd h (jn o s) (Tree.nd ((h (jl o s)).getD []) ((h (jr o s)).getD []))) (jn o s) (P.drop (J + 1))).1) := by unfold Hid; rw [hE.out, hdr.out, clm_hit hno]
            have T2 : Tabs ((wr.alloc (.cells #[.int .i64 (s.1 : Int), .int .i64 (s.2 : Int)] 62)).alloc (.cells #[.string y] 80)) := tabs_keep T3.out K2.out fun k e => by
              rcases e with e | e
              · rw [e]; exact hb
              · omega
            have i3 := join12_any M2.out T2 hLo.out hls hO.out hno hW.out
            clear hE hdr hM hS hKq bb b2 s0 M1
            go_wp2_with (go_at_call 74; refine i3.mono ?_; rintro r w5 ⟨rfl, M5, W5, K5⟩; have O5 := hid (SpI.keep O2.out K5 (by omega)); have q6 := O5.out.c0; have q7 := O5.out.c1; have q8 := O5.out.f0; have q9 := O5.out.f1)
            have L5 := hid (jn_lo hLo.out hls)
            have N5 : Hid (upd h (jn o s) (Tree.nd ((h (jl o s)).getD []) ((h (jr o s)).getD [])) (jn o s) ≠ none) := by unfold Hid upd; rw [if_pos rfl]; simp
            generalize upd h (jn o s) (Tree.nd ((h (jl o s)).getD []) ((h (jr o s)).getD [])) = h' at *
            generalize jn o s = o' at *
            have k6 := keep_two w5 w1.heap.size (.int .i64 (o'.1 : Int)) (.int .i64 (o'.2 : Int))
            refine ⟨⟨J + 1, h', o', by omega, by go_num, M5.keep k6 hb2, W5, N5, L5, O5.out.two _ _, (K2.out.trans K5 fun j hj e => .inl e).trans k6 fun j hj e => .inr e, hfin⟩, by simp [intOf]; omega⟩
        · obtain rfl : J = N := by omega
          have e0 : ¬ (J : Int) < (J : Int) := by omega
          have hdr : P.drop J = [] := List.drop_eq_nil_of_le (by rw [HN.out]; exact Nat.le_refl _)
          have hfin : Hid ((clm g (i, i + 1) P).1 = h) := by unfold Hid; rw [hE.out, hdr, clm]
          have KK := hid (K3.out.trans hKq.out fun k hk e => by
            rcases e with e | e
            · exact e
            · omega)
          rw [hfin.out] at CN
          clear hE hdr
          go_wp2
          go_step3
          simp (config := { zetaDelta := true }) only [Exit.jump]
          go_wp2
          exact ⟨⟨k + 1, h, by omega, by go_num, hM, CN, hW, KK⟩, by simp [intOf]; omega⟩
    · obtain rfl : k = m := by omega
      have b0 : ¬ (k : Int) < (k : Int) := by omega
      go_wp2
      go_end0
      exact ⟨rfl, g, HM.out, HC.out, HW.out, HK.out⟩
end Bat
end Go.Proofs.YtbodgecbakcaaaaGreatDoor

namespace Go.Proofs.YtbodgecbakcaaaaGreatDoor
open Go.RowKit Go.Shelf
namespace Bat
abbrev bt (n : Int) (vi vh : Value) : Value := .agg #[.int .i64 n, vi, vh]
def BtI (w : World) (g : Nat) (n : Int) (vi vh : Value) : Prop := w.heap[g]? = some (.cells #[.int .i64 n, vi, vh] 25 (0, 0))
theorem BtI.c0 {w : World} {g : Nat} {n : Int} {vi vh : Value} (h : BtI w g n vi vh) : w.cell? ⟨g, 0, none⟩ = some (.int .i64 n) := by rw [cell_of_row w g 0 _ _ _ h]; rfl
theorem BtI.c1 {w : World} {g : Nat} {n : Int} {vi vh : Value} (h : BtI w g n vi vh) : w.cell? ⟨g, 1, none⟩ = some vi := by rw [cell_of_row w g 1 _ _ _ h]; rfl
theorem BtI.c2 {w : World} {g : Nat} {n : Int} {vi vh : Value} (h : BtI w g n vi vh) : w.cell? ⟨g, 2, none⟩ = some vh := by rw [cell_of_row w g 2 _ _ _ h]; rfl
theorem BtI.new (w : World) (n : Int) (vi vh : Value) : BtI (w.alloc (.cells #[.int .i64 n, vi, vh] 25)) w.heap.size n vi vh := heap_alloc_new w _
theorem BtI.below {w w' : World} {g : Nat} {n : Int} {vi vh : Value} (h : BtI w g n vi vh) (hb : Below w.heap.size w w') : BtI w' g n vi vh := (hb.block g (lt_of_heap h)).trans h
theorem BtI.keep {w w' : World} {g : Nat} {n : Int} {vi vh : Value} {S : Nat → Prop} (h : BtI w g n vi vh) (hb : Keep S w w') (hs : ¬ S g) : BtI w' g n vi vh := (hb.block g (lt_of_heap h) hs).trans h
def knE (n : Int) (cs : List Int) (H L : List (List UInt8)) : Int := if tolE n cs = 0 then (if H.length = (batchL n cs).length ∧ L.length = cs.length ∧ hsB8 H = true ∧ hsB8 L = true then 0 else 122) else tolE n cs
set_option maxRecDepth 100000 in
set_option maxHeartbeats 8000000 in
theorem known12_bad (n : Int) (cs : List Int) (H L : List (List UInt8)) (ai ah al : Option Addr) (ci ch cl : Nat) (w : World) (hcs : cs.length ≤ 140737488355328) (hH : H.length ≤ 9223372036854775807) (hL : L.length ≤ 9223372036854775807) (hA : AtI w ai cs) (hAh : At w ah H) (hAl : At w al L) (he : knE n cs H L ≠ 0) :
    Calls Tryz.prog 39 #[bt n (.slice ai cs.length ci) (.slice ah H.length ch), .slice al L.length cl] w fun r w' => r = .returned (.tuple #[.map none, .int .i64 (knE n cs H L)]) ∧ Below w.heap.size w w' := by
  have b0 := (Below.refl w.heap.size w).alloc (Nat.le_refl _) (.cells #[.int .i64 n, .slice ai cs.length ci, .slice ah H.length ch] 25)
  have s0 := BtI.new w n (.slice ai cs.length ci) (.slice ah H.length ch)
  have i1 := told12_any n cs ai ci _ hcs (hA.below b0 (Nat.le_refl _))
  have HS := hid s0
  have B0 := hid b0
  have x0 := s0.c0
  have x1 := s0.c1
  by_cases h0 : tolE n cs = 0
  · have he2 : ¬ (H.length = (batchL n cs).length ∧ L.length = cs.length ∧ hsB8 H = true ∧ hsB8 L = true) := fun h => he (by unfold knE; rw [if_pos h0, if_pos h])
    have eK : knE n cs H L = 122 := by unfold knE; rw [if_pos h0, if_neg he2]
    rw [eK]
    rw [h0] at i1
    have j2 := fun w' hA' => areHashes12_is H (hsB8 H) rfl ah ch w' hH hA'
    have j3 := fun w' hA' => areHashes12_is L (hsB8 L) rfl al cl w' hL hA'
    have AH := hid (fun w' (h : Below w.heap.size w w') => hAh.below h (Nat.le_refl _))
    have AL := hid (fun w' (h : Below w.heap.size w w') => hAl.below h (Nat.le_refl _))
    generalize batchL n cs = B at *
    generalize H.length = hl at *
    generalize L.length = ll at *
    generalize cs.length = cl2 at *
    obtain ⟨bl, hbl⟩ : ∃ bl, B.length = bl := ⟨_, rfl⟩
    have HB := hid hbl
    rw [hbl] at he2
    clear hA hAh hAl he eK b0 s0 hbl h0
    by_cases q1 : hl = bl
    · subst q1
      have r1 : ((hl : Int) != (hl : Int)) = false := by simp
      by_cases q2 : ll = cl2
      · subst q2
        have r2 : ((ll : Int) != (ll : Int)) = false := by simp
        cases q3 : hsB8 H with
        | false =>
          rw [q3] at j2
          clear he2
          go_enter Tryz.func39, Tryz.ntmps39
          go_wp2_with (first
            | (go_at_call 36; refine i1.mono ?_; rintro r w1 ⟨b1, v1, rfl, o1, f1⟩; obtain ⟨a1, c1, rfl, _, _⟩ := OwnM.shape o1; have B1 := hid (B0.out.trans (b1.mono B0.out.size)); have S1 := HS.out.below b1; have y0 := S1.c0; have y1 := S1.c1; have y2 := S1.c2; rw [HB.out]; clear b1 o1 f1 S1)
            | (go_at_call 55; (first | (with_reducible refine (j2 _ (AH.out _ B1.out)).mono ?_) | (with_reducible refine (j3 _ (AL.out _ B1.out)).mono ?_)); rintro r w2 ⟨rfl, h0⟩; have h0 := h0.symm; subst h0))
          go_ret2
          exact ⟨rfl, B1.out⟩
        | true =>
          rw [q3] at j2
          have q4 : hsB8 L = false := by
            cases q : hsB8 L with
            | false => rfl
            | true => exact absurd ⟨rfl, rfl, q3, q⟩ he2
          rw [q4] at j3
          clear he2
          go_enter Tryz.func39, Tryz.ntmps39
          go_wp2_with (first
            | (go_at_call 36; refine i1.mono ?_; rintro r w1 ⟨b1, v1, rfl, o1, f1⟩; obtain ⟨a1, c1, rfl, _, _⟩ := OwnM.shape o1; have B1 := hid (B0.out.trans (b1.mono B0.out.size)); have S1 := HS.out.below b1; have y0 := S1.c0; have y1 := S1.c1; have y2 := S1.c2; rw [HB.out]; clear b1 o1 f1 S1)
            | (go_at_call 55; (first | (with_reducible refine (j2 _ (AH.out _ B1.out)).mono ?_) | (with_reducible refine (j3 _ (AL.out _ B1.out)).mono ?_)); rintro r w2 ⟨rfl, h0⟩; have h0 := h0.symm; subst h0))
          go_ret2
          exact ⟨rfl, B1.out⟩
      · have r2 : ((ll : Int) != (cl2 : Int)) = true := by simp; omega
        have r3 : ((ll : Int) == (cl2 : Int)) = false := by simp; omega
        clear he2
        go_enter Tryz.func39, Tryz.ntmps39
        go_wp2_with (first
          | (go_at_call 36; refine i1.mono ?_; rintro r w1 ⟨b1, v1, rfl, o1, f1⟩; obtain ⟨a1, c1, rfl, _, _⟩ := OwnM.shape o1; have B1 := hid (B0.out.trans (b1.mono B0.out.size)); have S1 := HS.out.below b1; have y0 := S1.c0; have y1 := S1.c1; have y2 := S1.c2; rw [HB.out]; clear b1 o1 f1 S1)
          | (go_at_call 55; (first | (with_reducible refine (j2 _ (AH.out _ B1.out)).mono ?_) | (with_reducible refine (j3 _ (AL.out _ B1.out)).mono ?_)); rintro r w2 ⟨rfl, h0⟩; have h0 := h0.symm; subst h0))
        go_ret2
        exact ⟨rfl, B1.out⟩
    · have r1 : ((hl : Int) != (bl : Int)) = true := by simp; omega
      have r3 : ((hl : Int) == (bl : Int)) = false := by simp; omega
      clear he2
      go_enter Tryz.func39, Tryz.ntmps39
      go_wp2_with (first
        | (go_at_call 36; refine i1.mono ?_; rintro r w1 ⟨b1, v1, rfl, o1, f1⟩; obtain ⟨a1, c1, rfl, _, _⟩ := OwnM.shape o1; have B1 := hid (B0.out.trans (b1.mono B0.out.size)); have S1 := HS.out.below b1; have y0 := S1.c0; have y1 := S1.c1; have y2 := S1.c2; rw [HB.out]; clear b1 o1 f1 S1)
        | (go_at_call 55; (first | (with_reducible refine (j2 _ (AH.out _ B1.out)).mono ?_) | (with_reducible refine (j3 _ (AL.out _ B1.out)).mono ?_)); rintro r w2 ⟨rfl, h0⟩; have h0 := h0.symm; subst h0))
      go_ret2
      exact ⟨rfl, B1.out⟩
  · have eK : knE n cs H L = tolE n cs := by unfold knE; rw [if_neg h0]
    rw [eK]
    generalize tolE n cs = c at *
    generalize batchL n cs = B at *
    have h0' : (c != 0) = true := by simpa using h0
    generalize H.length = hl at *
    generalize L.length = ll at *
    generalize cs.length = cl2 at *
    clear hA hAh hAl he eK b0 s0
    go_enter Tryz.func39, Tryz.ntmps39
    go_wp2_with (go_at_call 36; refine i1.mono ?_; rintro r w1 ⟨b1, v1, rfl, o1, f1⟩; have B1 := hid (B0.out.trans (b1.mono B0.out.size)); clear b1 o1 f1)
    go_ret2
    exact ⟨rfl, B1.out⟩
end Bat
end Go.Proofs.YtbodgecbakcaaaaGreatDoor
