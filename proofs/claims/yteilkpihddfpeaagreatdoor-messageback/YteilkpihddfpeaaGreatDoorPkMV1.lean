import Derived.Test.YteilkpihddfpeaaGreatDoorPkMT1
import Derived.Test.YteilkpihddfpeaaGreatDoorPkMW1
namespace Go.Proofs.YteilkpihddfpeaaGreatDoor
open Go.RowKit Cod
namespace Msg

/-- a reply on its way: its cells -/
def rpArr (y : Value) (x : Part) (uh ue up : Value) (t : Part) (th te tp : Value) : Array Value :=
  #[y, .int .i64 x.status, .int .i64 x.size, .int .i64 x.a, .int .i64 x.b, sv x.root, uh, ue, up, .int .i64 t.status, .int .i64 t.size, .int .i64 t.a, .int .i64 t.b, sv t.root, th, te, tp]
structure Pa (w : World) (base b c d : Nat) (v : Value) (s : LS) (x : Part) (uh ue up : Value) (t : Part) (th te tp : Value) : Prop where
  ly : Ly w base b c v s
  row : w.heap[d]? = some (.cells (rpArr (lay c) x uh ue up t th te tp) 76 (0, 0))
  dn : ¬ LSet b c v d
  ge : base ≤ d
  l1 : Lw base uh
  l2 : Lw base ue
  s1 : Slc w uh x.hs
  s2 : Slc w ue x.ent
  s3 : ∃ p q, up = .slice p x.n q
  t1 : ∃ p q, th = .slice p t.hs.length q
  t2 : ∃ p q, te = .slice p t.ent.length q
  t3 : ∃ p q, tp = .slice p t.n q
def GPost (w : World) (base b c d : Nat) (v : Value) (s : LS) (x : Part) (uh ue up : Value) (t : Part) (w' : World) : Prop :=
  ∃ v' th te tp, Pa w' base b c d v' s x uh ue up t th te tp ∧ Keep (QSet b c d v) w w' ∧ From w v v'
theorem Pa.lt {w : World} {base b c d : Nat} {v : Value} {s : LS} {x : Part} {uh ue up : Value} {t : Part} {th te tp : Value} (h : Pa w base b c d v s x uh ue up t th te tp) : d < w.heap.size := lt_of_heap h.row
theorem Pa.row2 {w w2 : World} {base b c d : Nat} {v : Value} {s s' : LS} {x : Part} {uh ue up : Value} {t : Part} {th te tp : Value} (h : Pa w base b c d v s x uh ue up t th te tp) (hl : Lo w base b c v s' w2) : w2.heap[d]? = some (.cells (rpArr (lay c) x uh ue up t th te tp) 76 (0, 0)) := by
  obtain ⟨v', h1, h2, h3⟩ := hl
  exact (h2.block d h.lt h.dn).trans h.row
theorem Pa.put {w w2 : World} {base b c d : Nat} {v : Value} {s s' : LS} {x : Part} {uh ue up : Value} {t : Part} {th te tp : Value} (h : Pa w base b c d v s x uh ue up t th te tp) (hl : Lo w base b c v s' w2)
    (o : Nat) (u : Value) (t' : Part) (th' te' tp' : Value) (hr : (rpArr (lay c) x uh ue up t th te tp).setIfInBounds o u = rpArr (lay c) x uh ue up t' th' te' tp')
    (t1 : ∃ p q, th' = .slice p t'.hs.length q) (t2 : ∃ p q, te' = .slice p t'.ent.length q) (t3 : ∃ p q, tp' = .slice p t'.n q) :
    GPost w base b c d v s' x uh ue up t' (w2.setCell ⟨d, o, none⟩ u) := by
  have hrow := h.row2 hl
  obtain ⟨v', h1, h2, h3⟩ := hl
  have hd := h.lt
  have hdn : ¬ LSet b c v' d := fun e => by
    rcases e with e | e | e
    · exact h.dn (.inl e)
    · exact h.dn (.inr (.inl e))
    · rcases h3 d e with g | g
      · exact h.dn (.inr (.inr g))
      · omega
  have k2 : Keep (fun k => k = d) w2 (w2.setCell ⟨d, o, none⟩ u) := Keep.ofBut ((But.refl d w2).setCell o u) rfl
  have kk : Keep (QSet b c d v) w (w2.setCell ⟨d, o, none⟩ u) := (h2.mono (T := QSet b c d v) fun _ _ e => .inr e).setCell d o u (.inl rfl)
  have bl : Below base w (w2.setCell ⟨d, o, none⟩ u) := kk.below h.ly.base fun k hk e => by
    rcases e with e | e
    · have := h.ge; omega
    · have := (h.ly.ge' k e).1; omega
  exact ⟨v', th', te', tp', ⟨h1.set k2 (fun k hk e => hdn (e ▸ hk)), row_set o u hrow hr, hdn, h.ge, h.l1, h.l2, h.l1.slc h.s1 bl, h.l2.slc h.s2 bl, h.s3, t1, t2, t3⟩, kk, h3⟩
/-- what may stand in a reply -/
structure PFit (x : Part) : Prop where
  k2 : -9223372036854775808 ≤ x.size ∧ x.size ≤ 9223372036854775807
  k3 : -9223372036854775808 ≤ x.a ∧ x.a ≤ 9223372036854775807
  hl : x.hs.length ≤ maxLen
  el : x.ent.length ≤ maxLen
set_option maxRecDepth 100000 in
set_option maxHeartbeats 2000000 in
theorem g_size {w : World} {base b c d : Nat} {v : Value} {s : LS} {x : Part} {uh ue up : Value} {t : Part} {th te tp : Value} (h : Pa w base b c d v s x uh ue up t th te tp) (hf : PFit x) (hm : Sm s 140600000000000) (da : LS → LS) :
    Calls Tryz.prog 45 #[.pointer (some ⟨d, 0, none⟩)] w fun e w' => e = .returned (.tuple #[]) ∧ GPost w base b c d v (lFr x da .size s) x uh ue up (setR x .size t) w' := by
  have c0 : w.cell? ⟨d, 0, none⟩ = some (lay c) := by rw [cell_of_row _ _ _ _ _ _ h.row]; rfl
  have c4 : w.cell? ⟨d, 2, none⟩ = some (.int .i64 x.size) := by rw [cell_of_row _ _ _ _ _ _ h.row]; rfl
  have i1 := laySize_any x.size hf.k2.1 hf.k2.2 w.drew h.ly.drew (hm.mono (by omega))
  rw [lay] at c0
  have mm := m_laying_size ⟨c, 0, none⟩
  have HQ := hid h
  clear h hf hm
  go_enter Tryz.func45, Tryz.ntmps45
  go_region_held3 (fun w' => w'.cell? ⟨d, 0, none⟩ = some (.iface 72 (.pointer (some ⟨c, 0, none⟩))) ∧ w'.cell? ⟨d, 2, none⟩ = some (.int .i64 x.size)) (first | exact ⟨c0, c4⟩ | exact S2 | exact S3) (first | (go_at_call 91; (with_reducible refine i1.mono ?_); rintro e w2 ⟨rfl, hl⟩; have hl := hl.drew; have hrow := HQ.out.row2 hl; have g0 : w2.frozen? ⟨d, 10, none⟩ = false := frozen_of_row _ _ _ _ _ hrow; have e0 : w2.cell? ⟨d, 10, none⟩ = some (.int .i64 t.size) := (by rw [cell_of_row _ _ _ _ _ _ hrow]; rfl); have S2 : w2.cell? ⟨d, 0, none⟩ = some (lay c) ∧ w2.cell? ⟨d, 2, none⟩ = some (.int .i64 x.size) := ⟨by rw [cell_of_row _ _ _ _ _ _ hrow]; rfl, by rw [cell_of_row _ _ _ _ _ _ hrow]; rfl⟩; have hrow3 := row_set 10 (.int .i64 x.size) hrow rfl; have S3 : (w2.setCell ⟨d, 10, none⟩ (.int .i64 x.size)).cell? ⟨d, 0, none⟩ = some (lay c) ∧ (w2.setCell ⟨d, 10, none⟩ (.int .i64 x.size)).cell? ⟨d, 2, none⟩ = some (.int .i64 x.size) := ⟨by rw [cell_of_row _ _ _ _ _ _ hrow3]; rfl, by rw [cell_of_row _ _ _ _ _ _ hrow3]; rfl⟩; rw [lay] at S2 S3; have HL := hid hl; clear hl hrow hrow3))
  go_end0
  exact ⟨rfl, HQ.out.put HL.out 10 _ _ _ _ _ rfl HQ.out.t1 HQ.out.t2 HQ.out.t3⟩
set_option maxRecDepth 100000 in
set_option maxHeartbeats 2000000 in
theorem g_a {w : World} {base b c d : Nat} {v : Value} {s : LS} {x : Part} {uh ue up : Value} {t : Part} {th te tp : Value} (h : Pa w base b c d v s x uh ue up t th te tp) (hf : PFit x) (hm : Sm s 140600000000000) (da : LS → LS) :
    Calls Tryz.prog 46 #[.pointer (some ⟨d, 0, none⟩)] w fun e w' => e = .returned (.tuple #[]) ∧ GPost w base b c d v (lFr x da .a s) x uh ue up (setR x .a t) w' := by
  have c0 : w.cell? ⟨d, 0, none⟩ = some (lay c) := by rw [cell_of_row _ _ _ _ _ _ h.row]; rfl
  have c4 : w.cell? ⟨d, 3, none⟩ = some (.int .i64 x.a) := by rw [cell_of_row _ _ _ _ _ _ h.row]; rfl
  have i1 := laySize_any x.a hf.k3.1 hf.k3.2 w.drew h.ly.drew (hm.mono (by omega))
  rw [lay] at c0
  have mm := m_laying_size ⟨c, 0, none⟩
  have HQ := hid h
  clear h hf hm
  go_enter Tryz.func46, Tryz.ntmps46
  go_region_held3 (fun w' => w'.cell? ⟨d, 0, none⟩ = some (.iface 72 (.pointer (some ⟨c, 0, none⟩))) ∧ w'.cell? ⟨d, 3, none⟩ = some (.int .i64 x.a)) (first | exact ⟨c0, c4⟩ | exact S2 | exact S3) (first | (go_at_call 91; (with_reducible refine i1.mono ?_); rintro e w2 ⟨rfl, hl⟩; have hl := hl.drew; have hrow := HQ.out.row2 hl; have g0 : w2.frozen? ⟨d, 11, none⟩ = false := frozen_of_row _ _ _ _ _ hrow; have e0 : w2.cell? ⟨d, 11, none⟩ = some (.int .i64 t.a) := (by rw [cell_of_row _ _ _ _ _ _ hrow]; rfl); have S2 : w2.cell? ⟨d, 0, none⟩ = some (lay c) ∧ w2.cell? ⟨d, 3, none⟩ = some (.int .i64 x.a) := ⟨by rw [cell_of_row _ _ _ _ _ _ hrow]; rfl, by rw [cell_of_row _ _ _ _ _ _ hrow]; rfl⟩; have hrow3 := row_set 11 (.int .i64 x.a) hrow rfl; have S3 : (w2.setCell ⟨d, 11, none⟩ (.int .i64 x.a)).cell? ⟨d, 0, none⟩ = some (lay c) ∧ (w2.setCell ⟨d, 11, none⟩ (.int .i64 x.a)).cell? ⟨d, 3, none⟩ = some (.int .i64 x.a) := ⟨by rw [cell_of_row _ _ _ _ _ _ hrow3]; rfl, by rw [cell_of_row _ _ _ _ _ _ hrow3]; rfl⟩; rw [lay] at S2 S3; have HL := hid hl; clear hl hrow hrow3))
  go_end0
  exact ⟨rfl, HQ.out.put HL.out 11 _ _ _ _ _ rfl HQ.out.t1 HQ.out.t2 HQ.out.t3⟩
set_option maxRecDepth 100000 in
set_option maxHeartbeats 2000000 in
theorem g_over {w : World} {base b c d : Nat} {v : Value} {s : LS} {x : Part} {uh ue up : Value} {t : Part} {th te tp : Value} (h : Pa w base b c d v s x uh ue up t th te tp) (_hf : PFit x) (hm : Sm s 140600000000000) (da : LS → LS) :
    Calls Tryz.prog 47 #[.pointer (some ⟨d, 0, none⟩)] w fun e w' => e = .returned (.tuple #[]) ∧ GPost w base b c d v (lFr x da .over s) x uh ue up (setR x .over t) w' := by
  have c0 : w.cell? ⟨d, 0, none⟩ = some (lay c) := by rw [cell_of_row _ _ _ _ _ _ h.row]; rfl
  have c4 : w.cell? ⟨d, 4, none⟩ = some (.int .i64 x.b) := by rw [cell_of_row _ _ _ _ _ _ h.row]; rfl
  have i1 := layMark_any x.b 0 1 w.drew h.ly.drew (hm.mono (by omega))
  obtain ⟨z, hz⟩ : ∃ z, Hid ((if wi x.b 0 1 = true then x.b else 0) = z) := ⟨_, rfl⟩
  rw [hz.out] at i1
  rw [lay] at c0
  have mm := m_laying_mark ⟨c, 0, none⟩
  have HQ := hid h
  clear h _hf hm
  go_enter Tryz.func47, Tryz.ntmps47
  go_region_held3 (fun w' => w'.cell? ⟨d, 0, none⟩ = some (.iface 72 (.pointer (some ⟨c, 0, none⟩))) ∧ w'.cell? ⟨d, 4, none⟩ = some (.int .i64 x.b)) (first | exact ⟨c0, c4⟩ | exact S2 | exact S3) (first | (go_at_call 88; (with_reducible refine i1.mono ?_); rintro e w2 ⟨rfl, hl⟩; have hl := hl.drew; have hrow := HQ.out.row2 hl; have g0 : w2.frozen? ⟨d, 12, none⟩ = false := frozen_of_row _ _ _ _ _ hrow; have e0 : w2.cell? ⟨d, 12, none⟩ = some (.int .i64 t.b) := (by rw [cell_of_row _ _ _ _ _ _ hrow]; rfl); have S2 : w2.cell? ⟨d, 0, none⟩ = some (lay c) ∧ w2.cell? ⟨d, 4, none⟩ = some (.int .i64 x.b) := ⟨by rw [cell_of_row _ _ _ _ _ _ hrow]; rfl, by rw [cell_of_row _ _ _ _ _ _ hrow]; rfl⟩; have hrow3 := row_set 12 (.int .i64 z) hrow rfl; have S3 : (w2.setCell ⟨d, 12, none⟩ (.int .i64 z)).cell? ⟨d, 0, none⟩ = some (lay c) ∧ (w2.setCell ⟨d, 12, none⟩ (.int .i64 z)).cell? ⟨d, 4, none⟩ = some (.int .i64 x.b) := ⟨by rw [cell_of_row _ _ _ _ _ _ hrow3]; rfl, by rw [cell_of_row _ _ _ _ _ _ hrow3]; rfl⟩; rw [lay] at S2 S3; have HL := hid hl; clear hl hrow hrow3))
  go_end0
  exact ⟨rfl, HQ.out.put HL.out 12 _ _ _ _ _ (by rw [setR, hz.out]; rfl) HQ.out.t1 HQ.out.t2 HQ.out.t3⟩
set_option maxRecDepth 100000 in
set_option maxHeartbeats 2000000 in
theorem g_root {w : World} {base b c d : Nat} {v : Value} {s : LS} {x : Part} {uh ue up : Value} {t : Part} {th te tp : Value} (h : Pa w base b c d v s x uh ue up t th te tp) (_hf : PFit x) (hm : Sm s 140600000000000) (da : LS → LS) :
    Calls Tryz.prog 49 #[.pointer (some ⟨d, 0, none⟩)] w fun e w' => e = .returned (.tuple #[]) ∧ GPost w base b c d v (lFr x da .root s) x uh ue up (setR x .root t) w' := by
  have c0 : w.cell? ⟨d, 0, none⟩ = some (lay c) := by rw [cell_of_row _ _ _ _ _ _ h.row]; rfl
  have c4 : w.cell? ⟨d, 5, none⟩ = some (.string ⟨x.root.toArray⟩) := by rw [cell_of_row _ _ _ _ _ _ h.row]; rfl
  have i1 := layRoot_any ⟨x.root.toArray⟩ w.drew h.ly.drew (hm.mono (by omega))
  rw [lay] at c0
  have mm := m_laying_root ⟨c, 0, none⟩
  have HQ := hid h
  clear h _hf hm
  go_enter Tryz.func49, Tryz.ntmps49
  go_region_held3 (fun w' => w'.cell? ⟨d, 0, none⟩ = some (.iface 72 (.pointer (some ⟨c, 0, none⟩))) ∧ w'.cell? ⟨d, 5, none⟩ = some (.string ⟨x.root.toArray⟩)) (first | exact ⟨c0, c4⟩ | exact S2 | exact S3) (first | (go_at_call 90; (with_reducible refine i1.mono ?_); rintro e w2 ⟨rfl, hl⟩; rw [sv_data] at hl; have hl := hl.drew; have hrow := HQ.out.row2 hl; have g0 : w2.frozen? ⟨d, 13, none⟩ = false := frozen_of_row _ _ _ _ _ hrow; have e0 : w2.cell? ⟨d, 13, none⟩ = some (sv t.root) := (by rw [cell_of_row _ _ _ _ _ _ hrow]; rfl); have S2 : w2.cell? ⟨d, 0, none⟩ = some (lay c) ∧ w2.cell? ⟨d, 5, none⟩ = some (.string ⟨x.root.toArray⟩) := ⟨by rw [cell_of_row _ _ _ _ _ _ hrow]; rfl, by rw [cell_of_row _ _ _ _ _ _ hrow]; rfl⟩; have hrow3 := row_set 13 (.string ⟨x.root.toArray⟩) hrow rfl; have S3 : (w2.setCell ⟨d, 13, none⟩ (.string ⟨x.root.toArray⟩)).cell? ⟨d, 0, none⟩ = some (lay c) ∧ (w2.setCell ⟨d, 13, none⟩ (.string ⟨x.root.toArray⟩)).cell? ⟨d, 5, none⟩ = some (.string ⟨x.root.toArray⟩) := ⟨by rw [cell_of_row _ _ _ _ _ _ hrow3]; rfl, by rw [cell_of_row _ _ _ _ _ _ hrow3]; rfl⟩; rw [lay] at S2 S3; have HL := hid hl; clear hl hrow hrow3))
  go_end0
  exact ⟨rfl, HQ.out.put HL.out 13 _ _ _ _ _ rfl HQ.out.t1 HQ.out.t2 HQ.out.t3⟩
set_option maxRecDepth 100000 in
set_option maxHeartbeats 2000000 in
theorem g_hashes {w : World} {base b c d : Nat} {v : Value} {s : LS} {x : Part} {uh ue up : Value} {t : Part} {th te tp : Value} (h : Pa w base b c d v s x uh ue up t th te tp) (hf : PFit x) (hm : Sm s 140600000000000) (da : LS → LS) :
    Calls Tryz.prog 51 #[.pointer (some ⟨d, 0, none⟩)] w fun e w' => e = .returned (.tuple #[]) ∧ GPost w base b c d v (lFr x da .hashes s) x uh ue up (setR x .hashes t) w' := by
  obtain ⟨p1, q1, rfl, _⟩ := id h.s1
  have c0 : w.cell? ⟨d, 0, none⟩ = some (lay c) := by rw [cell_of_row _ _ _ _ _ _ h.row]; rfl
  have c4 : w.cell? ⟨d, 6, none⟩ = some (.slice p1 x.hs.length q1) := by rw [cell_of_row _ _ _ _ _ _ h.row]; rfl
  have i1 := layHashes_all _ x.hs hf.hl w.drew (Slc.drew h.s1) h.l1 h.ly.drew (fun e0 bs e => by have := hm bs e; have := hashes_fit e0; omega)
  rw [lay] at c0
  have mm := m_laying_hashes ⟨c, 0, none⟩
  have HQ := hid h
  clear h hf hm
  go_enter Tryz.func51, Tryz.ntmps51
  go_region_held3 (fun w' => w'.cell? ⟨d, 0, none⟩ = some (.iface 72 (.pointer (some ⟨c, 0, none⟩))) ∧ w'.cell? ⟨d, 6, none⟩ = some (.slice p1 x.hs.length q1)) (first | exact ⟨c0, c4⟩ | exact S2 | exact S3) (first | (go_at_call 87; (with_reducible refine i1.mono ?_); rintro e w2 ⟨rfl, hl⟩; have hl := hl.drew; have hrow := HQ.out.row2 hl; have g0 : w2.frozen? ⟨d, 14, none⟩ = false := frozen_of_row _ _ _ _ _ hrow; have e0 : w2.cell? ⟨d, 14, none⟩ = some (th) := (by rw [cell_of_row _ _ _ _ _ _ hrow]; rfl); have S2 : w2.cell? ⟨d, 0, none⟩ = some (lay c) ∧ w2.cell? ⟨d, 6, none⟩ = some (.slice p1 x.hs.length q1) := ⟨by rw [cell_of_row _ _ _ _ _ _ hrow]; rfl, by rw [cell_of_row _ _ _ _ _ _ hrow]; rfl⟩; have hrow3 := row_set 14 (.slice p1 x.hs.length q1) hrow rfl; have S3 : (w2.setCell ⟨d, 14, none⟩ (.slice p1 x.hs.length q1)).cell? ⟨d, 0, none⟩ = some (lay c) ∧ (w2.setCell ⟨d, 14, none⟩ (.slice p1 x.hs.length q1)).cell? ⟨d, 6, none⟩ = some (.slice p1 x.hs.length q1) := ⟨by rw [cell_of_row _ _ _ _ _ _ hrow3]; rfl, by rw [cell_of_row _ _ _ _ _ _ hrow3]; rfl⟩; rw [lay] at S2 S3; have HL := hid hl; clear hl hrow hrow3))
  go_end0
  exact ⟨rfl, HQ.out.put HL.out 14 _ _ _ _ _ rfl ⟨_, _, rfl⟩ HQ.out.t2 HQ.out.t3⟩
set_option maxRecDepth 100000 in
set_option maxHeartbeats 2000000 in
theorem g_entries {w : World} {base b c d : Nat} {v : Value} {s : LS} {x : Part} {uh ue up : Value} {t : Part} {th te tp : Value} (h : Pa w base b c d v s x uh ue up t th te tp) (hf : PFit x) (hm : Sm s 140600000000000) (da : LS → LS) :
    Calls Tryz.prog 50 #[.pointer (some ⟨d, 0, none⟩)] w fun e w' => e = .returned (.tuple #[]) ∧ GPost w base b c d v (lFr x da .entries s) x uh ue up (setR x .entries t) w' := by
  obtain ⟨p1, q1, rfl, _⟩ := id h.s2
  have c0 : w.cell? ⟨d, 0, none⟩ = some (lay c) := by rw [cell_of_row _ _ _ _ _ _ h.row]; rfl
  have c4 : w.cell? ⟨d, 7, none⟩ = some (.slice p1 x.ent.length q1) := by rw [cell_of_row _ _ _ _ _ _ h.row]; rfl
  have i1 := layTexts_all _ x.ent 0 4096 1000 hf.el w.drew (Slc.drew h.s2) h.l2 h.ly.drew (fun e0 bs e => by have := hm bs e; have := texts_fit e0 (by omega) (by omega); omega)
  rw [lay] at c0
  have mm := m_laying_texts ⟨c, 0, none⟩
  have HQ := hid h
  clear h hf hm
  go_enter Tryz.func50, Tryz.ntmps50
  go_region_held3 (fun w' => w'.cell? ⟨d, 0, none⟩ = some (.iface 72 (.pointer (some ⟨c, 0, none⟩))) ∧ w'.cell? ⟨d, 7, none⟩ = some (.slice p1 x.ent.length q1)) (first | exact ⟨c0, c4⟩ | exact S2 | exact S3) (first | (go_at_call 93; (with_reducible refine i1.mono ?_); rintro e w2 ⟨rfl, hl⟩; have hl := hl.drew; have hrow := HQ.out.row2 hl; have g0 : w2.frozen? ⟨d, 15, none⟩ = false := frozen_of_row _ _ _ _ _ hrow; have e0 : w2.cell? ⟨d, 15, none⟩ = some (te) := (by rw [cell_of_row _ _ _ _ _ _ hrow]; rfl); have S2 : w2.cell? ⟨d, 0, none⟩ = some (lay c) ∧ w2.cell? ⟨d, 7, none⟩ = some (.slice p1 x.ent.length q1) := ⟨by rw [cell_of_row _ _ _ _ _ _ hrow]; rfl, by rw [cell_of_row _ _ _ _ _ _ hrow]; rfl⟩; have hrow3 := row_set 15 (.slice p1 x.ent.length q1) hrow rfl; have S3 : (w2.setCell ⟨d, 15, none⟩ (.slice p1 x.ent.length q1)).cell? ⟨d, 0, none⟩ = some (lay c) ∧ (w2.setCell ⟨d, 15, none⟩ (.slice p1 x.ent.length q1)).cell? ⟨d, 7, none⟩ = some (.slice p1 x.ent.length q1) := ⟨by rw [cell_of_row _ _ _ _ _ _ hrow3]; rfl, by rw [cell_of_row _ _ _ _ _ _ hrow3]; rfl⟩; rw [lay] at S2 S3; have HL := hid hl; clear hl hrow hrow3))
  go_end0
  exact ⟨rfl, HQ.out.put HL.out 15 _ _ _ _ _ rfl HQ.out.t1 ⟨_, _, rfl⟩ HQ.out.t3⟩
end Msg
end Go.Proofs.YteilkpihddfpeaaGreatDoor
