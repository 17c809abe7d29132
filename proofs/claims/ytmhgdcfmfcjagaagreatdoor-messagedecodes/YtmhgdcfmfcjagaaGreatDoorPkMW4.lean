import Derived.Test.YtmhgdcfmfcjagaaGreatDoorPkMW2
namespace Go.Proofs.YtmhgdcfmfcjagaaGreatDoor
open Go.RowKit Cod
namespace Msg

/-- a request on its way: its cells -/
def aqArr (y : Value) (x : Ask) (ul ue ua : Value) (t : Ask) (tl te ta : Value) : Array Value :=
  #[y, .int .i64 x.kind, .int .i64 x.a, .int .i64 x.b, .int .i64 x.size, ul, ue, ua, .int .i64 t.kind, .int .i64 t.a, .int .i64 t.b, .int .i64 t.size, tl, te, ta]
def lay (c : Nat) : Value := .iface 96 (.pointer (some ⟨c, 0, none⟩))
/-- all that a field of a request is laid down with: the request on its way lies in block d -/
structure Qa (w : World) (base b c d : Nat) (v : Value) (s : LS) (x : Ask) (ul ue ua : Value) (t : Ask) (tl te ta : Value) : Prop where
  ly : Ly w base b c v s
  row : w.heap[d]? = some (.cells (aqArr (lay c) x ul ue ua t tl te ta) 100 (0, 0))
  dn : ¬ LSet b c v d
  ge : base ≤ d
  l1 : Lw base ul
  l2 : Lw base ue
  s1 : SlcI w ul x.list
  s2 : Slc w ue x.ent
  s3 : ∃ p q, ua = .slice p x.n q
  t1 : ∃ p q, tl = .slice p t.list.length q
  t2 : ∃ p q, te = .slice p t.ent.length q
  t3 : ∃ p q, ta = .slice p t.n q
def QSet (b c d : Nat) (v : Value) : Nat → Prop := fun k => k = d ∨ LSet b c v k
/-- what a field leaves -/
def FPost (w : World) (base b c d : Nat) (v : Value) (s : LS) (x : Ask) (ul ue ua : Value) (t : Ask) (w' : World) : Prop :=
  ∃ v' tl te ta, Qa w' base b c d v' s x ul ue ua t tl te ta ∧ Keep (QSet b c d v) w w' ∧ From w v v'
theorem Qa.lt {w : World} {base b c d : Nat} {v : Value} {s : LS} {x : Ask} {ul ue ua : Value} {t : Ask} {tl te ta : Value} (h : Qa w base b c d v s x ul ue ua t tl te ta) : d < w.heap.size := lt_of_heap h.row
theorem row_set {w : World} {d : Nat} {cs ds : Array Value} {T : TypeId} (o : Nat) (u : Value) (h : w.heap[d]? = some (.cells cs T (0, 0))) (hr : cs.setIfInBounds o u = ds) : (w.setCell ⟨d, o, none⟩ u).heap[d]? = some (.cells ds T (0, 0)) := by
  rw [heap_setCell_same _ _ _ _ _ _ h, hr]
theorem Qa.row2 {w w2 : World} {base b c d : Nat} {v : Value} {s s' : LS} {x : Ask} {ul ue ua : Value} {t : Ask} {tl te ta : Value} (h : Qa w base b c d v s x ul ue ua t tl te ta) (hl : Lo w base b c v s' w2) : w2.heap[d]? = some (.cells (aqArr (lay c) x ul ue ua t tl te ta) 100 (0, 0)) := by
  obtain ⟨v', h1, h2, h3⟩ := hl
  exact (h2.block d h.lt h.dn).trans h.row
theorem Qa.put {w w2 : World} {base b c d : Nat} {v : Value} {s s' : LS} {x : Ask} {ul ue ua : Value} {t : Ask} {tl te ta : Value} (h : Qa w base b c d v s x ul ue ua t tl te ta) (hl : Lo w base b c v s' w2)
    (o : Nat) (u : Value) (t' : Ask) (tl' te' ta' : Value) (hr : (aqArr (lay c) x ul ue ua t tl te ta).setIfInBounds o u = aqArr (lay c) x ul ue ua t' tl' te' ta')
    (t1 : ∃ p q, tl' = .slice p t'.list.length q) (t2 : ∃ p q, te' = .slice p t'.ent.length q) (t3 : ∃ p q, ta' = .slice p t'.n q) :
    FPost w base b c d v s' x ul ue ua t' (w2.setCell ⟨d, o, none⟩ u) := by
  have hrow := h.row2 hl
  obtain ⟨v', h1, h2, h3⟩ := hl
  have hd := h.lt
  have hdn : ¬ LSet b c v' d := fun e => by
    rcases e with e | e | e
    · exact h.dn (.inl e)
    · exact h.dn (.inr (.inl e))
    · rcases h3 d e with g | g
      · exact h.dn (.inr (.inr g))
      · omega
  have k2 : Keep (fun k => k = d) w2 (w2.setCell ⟨d, o, none⟩ u) := Keep.ofBut ((But.refl d w2).setCell o u) rfl
  have kk : Keep (QSet b c d v) w (w2.setCell ⟨d, o, none⟩ u) := (h2.mono (T := QSet b c d v) fun _ _ e => .inr e).setCell d o u (.inl rfl)
  have bl : Below base w (w2.setCell ⟨d, o, none⟩ u) := kk.below h.ly.base fun k hk e => by
    rcases e with e | e
    · have := h.ge; omega
    · have := (h.ly.ge' k e).1; omega
  exact ⟨v', tl', te', ta', ⟨h1.set k2 (fun k hk e => hdn (e ▸ hk)), row_set o u hrow hr, hdn, h.ge, h.l1, h.l2, h.l1.slcI h.s1 bl, h.l2.slc h.s2 bl, h.s3, t1, t2, t3⟩, kk, h3⟩
theorem Lo.drew {w w2 : World} {base b c : Nat} {v : Value} {s : LS} (h : Lo w.drew base b c v s w2) : Lo w base b c v s w2 := Lo.step (Keep.refl _ _).drew (From.refl _ _) h
theorem Ly.drew {w : World} {base b c : Nat} {v : Value} {s : LS} (h : Ly w base b c v s) : Ly w.drew base b c v s := h.below (Below.refl _ w).drew
theorem Slc.drew {w : World} {v : Value} {ps : List (List UInt8)} (h : Slc w v ps) : Slc w.drew v ps := h.below (Below.refl _ w).drew (Nat.le_refl _)
theorem SlcI.drew {w : World} {v : Value} {ps : List Int} (h : SlcI w v ps) : SlcI w.drew v ps := h.keep (S := fun _ => False) (Keep.refl _ w).drew (fun _ _ _ _ _ e => e)
/-- what may stand in a request -/
structure Fit (x : Ask) : Prop where
  k1 : -9223372036854775808 ≤ x.kind ∧ x.kind ≤ 9223372036854775807
  k2 : -9223372036854775808 ≤ x.a ∧ x.a ≤ 9223372036854775807
  k3 : -9223372036854775808 ≤ x.b ∧ x.b ≤ 9223372036854775807
  k4 : -9223372036854775808 ≤ x.size ∧ x.size ≤ 9223372036854775807
  li : ∀ c ∈ x.list, -9223372036854775808 ≤ c ∧ c ≤ 9223372036854775807
  ll : x.list.length ≤ maxLen
  el : x.ent.length ≤ maxLen
theorem m_laying_mark (a : Addr) (w : World) : (method 342 96 (.pointer (some a)) "scrivener/message.mark").run Tryz.prog w = .ok (152, .pointer (some a)) w := by kernel_rfl
theorem m_taking_mark (a : Addr) (w : World) : (method 342 127 (.pointer (some a)) "scrivener/message.mark").run Tryz.prog w = .ok (176, .pointer (some a)) w := by kernel_rfl
theorem m_laying_size (a : Addr) (w : World) : (method 342 96 (.pointer (some a)) "scrivener/message.size").run Tryz.prog w = .ok (155, .pointer (some a)) w := by kernel_rfl
theorem m_taking_size (a : Addr) (w : World) : (method 342 127 (.pointer (some a)) "scrivener/message.size").run Tryz.prog w = .ok (179, .pointer (some a)) w := by kernel_rfl
theorem m_laying_sizes (a : Addr) (w : World) : (method 342 96 (.pointer (some a)) "scrivener/message.sizes").run Tryz.prog w = .ok (156, .pointer (some a)) w := by kernel_rfl
theorem m_taking_sizes (a : Addr) (w : World) : (method 342 127 (.pointer (some a)) "scrivener/message.sizes").run Tryz.prog w = .ok (180, .pointer (some a)) w := by kernel_rfl
theorem m_laying_texts (a : Addr) (w : World) : (method 342 96 (.pointer (some a)) "scrivener/message.texts").run Tryz.prog w = .ok (157, .pointer (some a)) w := by kernel_rfl
theorem m_taking_texts (a : Addr) (w : World) : (method 342 127 (.pointer (some a)) "scrivener/message.texts").run Tryz.prog w = .ok (181, .pointer (some a)) w := by kernel_rfl
theorem m_laying_hashes (a : Addr) (w : World) : (method 342 96 (.pointer (some a)) "scrivener/message.hashes").run Tryz.prog w = .ok (151, .pointer (some a)) w := by kernel_rfl
theorem m_taking_hashes (a : Addr) (w : World) : (method 342 127 (.pointer (some a)) "scrivener/message.hashes").run Tryz.prog w = .ok (175, .pointer (some a)) w := by kernel_rfl
theorem m_laying_root (a : Addr) (w : World) : (method 342 96 (.pointer (some a)) "scrivener/message.root").run Tryz.prog w = .ok (154, .pointer (some a)) w := by kernel_rfl
theorem m_taking_root (a : Addr) (w : World) : (method 342 127 (.pointer (some a)) "scrivener/message.root").run Tryz.prog w = .ok (178, .pointer (some a)) w := by kernel_rfl
theorem m_laying_asks (a : Addr) (w : World) : (method 342 96 (.pointer (some a)) "scrivener/message.asks").run Tryz.prog w = .ok (150, .pointer (some a)) w := by kernel_rfl
theorem m_taking_asks (a : Addr) (w : World) : (method 342 127 (.pointer (some a)) "scrivener/message.asks").run Tryz.prog w = .ok (173, .pointer (some a)) w := by kernel_rfl
theorem m_laying_parts (a : Addr) (w : World) : (method 342 96 (.pointer (some a)) "scrivener/message.parts").run Tryz.prog w = .ok (153, .pointer (some a)) w := by kernel_rfl
theorem m_taking_parts (a : Addr) (w : World) : (method 342 127 (.pointer (some a)) "scrivener/message.parts").run Tryz.prog w = .ok (177, .pointer (some a)) w := by kernel_rfl
set_option maxRecDepth 100000 in
set_option maxHeartbeats 2000000 in
theorem f_a {w : World} {base b c d : Nat} {v : Value} {s : LS} {x : Ask} {ul ue ua : Value} {t : Ask} {tl te ta : Value} (h : Qa w base b c d v s x ul ue ua t tl te ta) (hf : Fit x) (hm : Sm s 140600000000000) (da : LS → LS) :
    Calls Tryz.prog 107 #[.pointer (some ⟨d, 0, none⟩)] w fun e w' => e = .returned (.tuple #[]) ∧ FPost w base b c d v (lFq x da .a s) x ul ue ua (setF x .a t) w' := by
  have c0 : w.cell? ⟨d, 0, none⟩ = some (lay c) := by rw [cell_of_row _ _ _ _ _ _ h.row]; rfl
  have c4 : w.cell? ⟨d, 2, none⟩ = some (.int .i64 x.a) := by rw [cell_of_row _ _ _ _ _ _ h.row]; rfl
  have i1 := laySize_any x.a hf.k2.1 hf.k2.2 w.drew h.ly.drew (hm.mono (by omega))
  rw [lay] at c0
  have mm := m_laying_size ⟨c, 0, none⟩
  have HQ := hid h
  clear h hf hm
  go_enter Tryz.func107, Tryz.ntmps107
  go_region_held3 (fun w' => w'.cell? ⟨d, 0, none⟩ = some (.iface 96 (.pointer (some ⟨c, 0, none⟩))) ∧ w'.cell? ⟨d, 2, none⟩ = some (.int .i64 x.a)) (first | exact ⟨c0, c4⟩ | exact S2 | exact S3) (first | (go_at_call 155; (with_reducible refine i1.mono ?_); rintro e w2 ⟨rfl, hl⟩; have hl := hl.drew; have hrow := HQ.out.row2 hl; have g0 : w2.frozen? ⟨d, 9, none⟩ = false := frozen_of_row _ _ _ _ _ hrow; have e0 : w2.cell? ⟨d, 9, none⟩ = some (.int .i64 t.a) := (by rw [cell_of_row _ _ _ _ _ _ hrow]; rfl); have S2 : w2.cell? ⟨d, 0, none⟩ = some (lay c) ∧ w2.cell? ⟨d, 2, none⟩ = some (.int .i64 x.a) := ⟨by rw [cell_of_row _ _ _ _ _ _ hrow]; rfl, by rw [cell_of_row _ _ _ _ _ _ hrow]; rfl⟩; have hrow3 := row_set 9 (.int .i64 x.a) hrow rfl; have S3 : (w2.setCell ⟨d, 9, none⟩ (.int .i64 x.a)).cell? ⟨d, 0, none⟩ = some (lay c) ∧ (w2.setCell ⟨d, 9, none⟩ (.int .i64 x.a)).cell? ⟨d, 2, none⟩ = some (.int .i64 x.a) := ⟨by rw [cell_of_row _ _ _ _ _ _ hrow3]; rfl, by rw [cell_of_row _ _ _ _ _ _ hrow3]; rfl⟩; rw [lay] at S2 S3; have HL := hid hl; clear hl hrow hrow3))
  go_end0
  exact ⟨rfl, HQ.out.put HL.out 9 _ _ _ _ _ rfl HQ.out.t1 HQ.out.t2 HQ.out.t3⟩
set_option maxRecDepth 100000 in
set_option maxHeartbeats 2000000 in
theorem f_b {w : World} {base b c d : Nat} {v : Value} {s : LS} {x : Ask} {ul ue ua : Value} {t : Ask} {tl te ta : Value} (h : Qa w base b c d v s x ul ue ua t tl te ta) (hf : Fit x) (hm : Sm s 140600000000000) (da : LS → LS) :
    Calls Tryz.prog 110 #[.pointer (some ⟨d, 0, none⟩)] w fun e w' => e = .returned (.tuple #[]) ∧ FPost w base b c d v (lFq x da .b s) x ul ue ua (setF x .b t) w' := by
  have c0 : w.cell? ⟨d, 0, none⟩ = some (lay c) := by rw [cell_of_row _ _ _ _ _ _ h.row]; rfl
  have c4 : w.cell? ⟨d, 3, none⟩ = some (.int .i64 x.b) := by rw [cell_of_row _ _ _ _ _ _ h.row]; rfl
  have i1 := laySize_any x.b hf.k3.1 hf.k3.2 w.drew h.ly.drew (hm.mono (by omega))
  rw [lay] at c0
  have mm := m_laying_size ⟨c, 0, none⟩
  have HQ := hid h
  clear h hf hm
  go_enter Tryz.func110, Tryz.ntmps110
  go_region_held3 (fun w' => w'.cell? ⟨d, 0, none⟩ = some (.iface 96 (.pointer (some ⟨c, 0, none⟩))) ∧ w'.cell? ⟨d, 3, none⟩ = some (.int .i64 x.b)) (first | exact ⟨c0, c4⟩ | exact S2 | exact S3) (first | (go_at_call 155; (with_reducible refine i1.mono ?_); rintro e w2 ⟨rfl, hl⟩; have hl := hl.drew; have hrow := HQ.out.row2 hl; have g0 : w2.frozen? ⟨d, 10, none⟩ = false := frozen_of_row _ _ _ _ _ hrow; have e0 : w2.cell? ⟨d, 10, none⟩ = some (.int .i64 t.b) := (by rw [cell_of_row _ _ _ _ _ _ hrow]; rfl); have S2 : w2.cell? ⟨d, 0, none⟩ = some (lay c) ∧ w2.cell? ⟨d, 3, none⟩ = some (.int .i64 x.b) := ⟨by rw [cell_of_row _ _ _ _ _ _ hrow]; rfl, by rw [cell_of_row _ _ _ _ _ _ hrow]; rfl⟩; have hrow3 := row_set 10 (.int .i64 x.b) hrow rfl; have S3 : (w2.setCell ⟨d, 10, none⟩ (.int .i64 x.b)).cell? ⟨d, 0, none⟩ = some (lay c) ∧ (w2.setCell ⟨d, 10, none⟩ (.int .i64 x.b)).cell? ⟨d, 3, none⟩ = some (.int .i64 x.b) := ⟨by rw [cell_of_row _ _ _ _ _ _ hrow3]; rfl, by rw [cell_of_row _ _ _ _ _ _ hrow3]; rfl⟩; rw [lay] at S2 S3; have HL := hid hl; clear hl hrow hrow3))
  go_end0
  exact ⟨rfl, HQ.out.put HL.out 10 _ _ _ _ _ rfl HQ.out.t1 HQ.out.t2 HQ.out.t3⟩
set_option maxRecDepth 100000 in
set_option maxHeartbeats 2000000 in
theorem f_size {w : World} {base b c d : Nat} {v : Value} {s : LS} {x : Ask} {ul ue ua : Value} {t : Ask} {tl te ta : Value} (h : Qa w base b c d v s x ul ue ua t tl te ta) (hf : Fit x) (hm : Sm s 140600000000000) (da : LS → LS) :
    Calls Tryz.prog 106 #[.pointer (some ⟨d, 0, none⟩)] w fun e w' => e = .returned (.tuple #[]) ∧ FPost w base b c d v (lFq x da .size s) x ul ue ua (setF x .size t) w' := by
  have c0 : w.cell? ⟨d, 0, none⟩ = some (lay c) := by rw [cell_of_row _ _ _ _ _ _ h.row]; rfl
  have c4 : w.cell? ⟨d, 4, none⟩ = some (.int .i64 x.size) := by rw [cell_of_row _ _ _ _ _ _ h.row]; rfl
  have i1 := laySize_any x.size hf.k4.1 hf.k4.2 w.drew h.ly.drew (hm.mono (by omega))
  rw [lay] at c0
  have mm := m_laying_size ⟨c, 0, none⟩
  have HQ := hid h
  clear h hf hm
  go_enter Tryz.func106, Tryz.ntmps106
  go_region_held3 (fun w' => w'.cell? ⟨d, 0, none⟩ = some (.iface 96 (.pointer (some ⟨c, 0, none⟩))) ∧ w'.cell? ⟨d, 4, none⟩ = some (.int .i64 x.size)) (first | exact ⟨c0, c4⟩ | exact S2 | exact S3) (first | (go_at_call 155; (with_reducible refine i1.mono ?_); rintro e w2 ⟨rfl, hl⟩; have hl := hl.drew; have hrow := HQ.out.row2 hl; have g0 : w2.frozen? ⟨d, 11, none⟩ = false := frozen_of_row _ _ _ _ _ hrow; have e0 : w2.cell? ⟨d, 11, none⟩ = some (.int .i64 t.size) := (by rw [cell_of_row _ _ _ _ _ _ hrow]; rfl); have S2 : w2.cell? ⟨d, 0, none⟩ = some (lay c) ∧ w2.cell? ⟨d, 4, none⟩ = some (.int .i64 x.size) := ⟨by rw [cell_of_row _ _ _ _ _ _ hrow]; rfl, by rw [cell_of_row _ _ _ _ _ _ hrow]; rfl⟩; have hrow3 := row_set 11 (.int .i64 x.size) hrow rfl; have S3 : (w2.setCell ⟨d, 11, none⟩ (.int .i64 x.size)).cell? ⟨d, 0, none⟩ = some (lay c) ∧ (w2.setCell ⟨d, 11, none⟩ (.int .i64 x.size)).cell? ⟨d, 4, none⟩ = some (.int .i64 x.size) := ⟨by rw [cell_of_row _ _ _ _ _ _ hrow3]; rfl, by rw [cell_of_row _ _ _ _ _ _ hrow3]; rfl⟩; rw [lay] at S2 S3; have HL := hid hl; clear hl hrow hrow3))
  go_end0
  exact ⟨rfl, HQ.out.put HL.out 11 _ _ _ _ _ rfl HQ.out.t1 HQ.out.t2 HQ.out.t3⟩
set_option maxRecDepth 100000 in
set_option maxHeartbeats 2000000 in
theorem f_indices {w : World} {base b c d : Nat} {v : Value} {s : LS} {x : Ask} {ul ue ua : Value} {t : Ask} {tl te ta : Value} (h : Qa w base b c d v s x ul ue ua t tl te ta) (hf : Fit x) (hm : Sm s 140600000000000) (da : LS → LS) :
    Calls Tryz.prog 108 #[.pointer (some ⟨d, 0, none⟩)] w fun e w' => e = .returned (.tuple #[]) ∧ FPost w base b c d v (lFq x da .indices s) x ul ue ua (setF x .indices t) w' := by
  obtain ⟨p1, q1, rfl, _⟩ := id h.s1
  have c0 : w.cell? ⟨d, 0, none⟩ = some (lay c) := by rw [cell_of_row _ _ _ _ _ _ h.row]; rfl
  have c4 : w.cell? ⟨d, 5, none⟩ = some (.slice p1 x.list.length q1) := by rw [cell_of_row _ _ _ _ _ _ h.row]; rfl
  have i1 := laySizes_all _ x.list 256 hf.li hf.ll w.drew (SlcI.drew h.s1) h.l1 h.ly.drew (fun e0 bs e => by have := hm bs e; have := rising_fit hf.li e0 (by omega); omega)
  rw [lay] at c0
  have mm := m_laying_sizes ⟨c, 0, none⟩
  have HQ := hid h
  clear h hf hm
  go_enter Tryz.func108, Tryz.ntmps108
  go_region_held3 (fun w' => w'.cell? ⟨d, 0, none⟩ = some (.iface 96 (.pointer (some ⟨c, 0, none⟩))) ∧ w'.cell? ⟨d, 5, none⟩ = some (.slice p1 x.list.length q1)) (first | exact ⟨c0, c4⟩ | exact S2 | exact S3) (first | (go_at_call 156; (with_reducible refine i1.mono ?_); rintro e w2 ⟨rfl, hl⟩; have hl := hl.drew; have hrow := HQ.out.row2 hl; have g0 : w2.frozen? ⟨d, 12, none⟩ = false := frozen_of_row _ _ _ _ _ hrow; have e0 : w2.cell? ⟨d, 12, none⟩ = some (tl) := (by rw [cell_of_row _ _ _ _ _ _ hrow]; rfl); have S2 : w2.cell? ⟨d, 0, none⟩ = some (lay c) ∧ w2.cell? ⟨d, 5, none⟩ = some (.slice p1 x.list.length q1) := ⟨by rw [cell_of_row _ _ _ _ _ _ hrow]; rfl, by rw [cell_of_row _ _ _ _ _ _ hrow]; rfl⟩; have hrow3 := row_set 12 (.slice p1 x.list.length q1) hrow rfl; have S3 : (w2.setCell ⟨d, 12, none⟩ (.slice p1 x.list.length q1)).cell? ⟨d, 0, none⟩ = some (lay c) ∧ (w2.setCell ⟨d, 12, none⟩ (.slice p1 x.list.length q1)).cell? ⟨d, 5, none⟩ = some (.slice p1 x.list.length q1) := ⟨by rw [cell_of_row _ _ _ _ _ _ hrow3]; rfl, by rw [cell_of_row _ _ _ _ _ _ hrow3]; rfl⟩; rw [lay] at S2 S3; have HL := hid hl; clear hl hrow hrow3))
  go_end0
  exact ⟨rfl, HQ.out.put HL.out 12 _ _ _ _ _ rfl ⟨_, _, rfl⟩ HQ.out.t2 HQ.out.t3⟩
set_option maxRecDepth 100000 in
set_option maxHeartbeats 2000000 in
theorem f_heads {w : World} {base b c d : Nat} {v : Value} {s : LS} {x : Ask} {ul ue ua : Value} {t : Ask} {tl te ta : Value} (h : Qa w base b c d v s x ul ue ua t tl te ta) (hf : Fit x) (hm : Sm s 140600000000000) (da : LS → LS) :
    Calls Tryz.prog 109 #[.pointer (some ⟨d, 0, none⟩)] w fun e w' => e = .returned (.tuple #[]) ∧ FPost w base b c d v (lFq x da .heads s) x ul ue ua (setF x .heads t) w' := by
  obtain ⟨p1, q1, rfl, _⟩ := id h.s1
  have c0 : w.cell? ⟨d, 0, none⟩ = some (lay c) := by rw [cell_of_row _ _ _ _ _ _ h.row]; rfl
  have c4 : w.cell? ⟨d, 5, none⟩ = some (.slice p1 x.list.length q1) := by rw [cell_of_row _ _ _ _ _ _ h.row]; rfl
  have i1 := laySizes_all _ x.list 64 hf.li hf.ll w.drew (SlcI.drew h.s1) h.l1 h.ly.drew (fun e0 bs e => by have := hm bs e; have := rising_fit hf.li e0 (by omega); omega)
  rw [lay] at c0
  have mm := m_laying_sizes ⟨c, 0, none⟩
  have HQ := hid h
  clear h hf hm
  go_enter Tryz.func109, Tryz.ntmps109
  go_region_held3 (fun w' => w'.cell? ⟨d, 0, none⟩ = some (.iface 96 (.pointer (some ⟨c, 0, none⟩))) ∧ w'.cell? ⟨d, 5, none⟩ = some (.slice p1 x.list.length q1)) (first | exact ⟨c0, c4⟩ | exact S2 | exact S3) (first | (go_at_call 156; (with_reducible refine i1.mono ?_); rintro e w2 ⟨rfl, hl⟩; have hl := hl.drew; have hrow := HQ.out.row2 hl; have g0 : w2.frozen? ⟨d, 12, none⟩ = false := frozen_of_row _ _ _ _ _ hrow; have e0 : w2.cell? ⟨d, 12, none⟩ = some (tl) := (by rw [cell_of_row _ _ _ _ _ _ hrow]; rfl); have S2 : w2.cell? ⟨d, 0, none⟩ = some (lay c) ∧ w2.cell? ⟨d, 5, none⟩ = some (.slice p1 x.list.length q1) := ⟨by rw [cell_of_row _ _ _ _ _ _ hrow]; rfl, by rw [cell_of_row _ _ _ _ _ _ hrow]; rfl⟩; have hrow3 := row_set 12 (.slice p1 x.list.length q1) hrow rfl; have S3 : (w2.setCell ⟨d, 12, none⟩ (.slice p1 x.list.length q1)).cell? ⟨d, 0, none⟩ = some (lay c) ∧ (w2.setCell ⟨d, 12, none⟩ (.slice p1 x.list.length q1)).cell? ⟨d, 5, none⟩ = some (.slice p1 x.list.length q1) := ⟨by rw [cell_of_row _ _ _ _ _ _ hrow3]; rfl, by rw [cell_of_row _ _ _ _ _ _ hrow3]; rfl⟩; rw [lay] at S2 S3; have HL := hid hl; clear hl hrow hrow3))
  go_end0
  exact ⟨rfl, HQ.out.put HL.out 12 _ _ _ _ _ rfl ⟨_, _, rfl⟩ HQ.out.t2 HQ.out.t3⟩
set_option maxRecDepth 100000 in
set_option maxHeartbeats 2000000 in
theorem f_entries {w : World} {base b c d : Nat} {v : Value} {s : LS} {x : Ask} {ul ue ua : Value} {t : Ask} {tl te ta : Value} (h : Qa w base b c d v s x ul ue ua t tl te ta) (hf : Fit x) (hm : Sm s 140600000000000) (da : LS → LS) :
    Calls Tryz.prog 105 #[.pointer (some ⟨d, 0, none⟩)] w fun e w' => e = .returned (.tuple #[]) ∧ FPost w base b c d v (lFq x da .entries s) x ul ue ua (setF x .entries t) w' := by
  obtain ⟨p1, q1, rfl, _⟩ := id h.s2
  have c0 : w.cell? ⟨d, 0, none⟩ = some (lay c) := by rw [cell_of_row _ _ _ _ _ _ h.row]; rfl
  have c4 : w.cell? ⟨d, 6, none⟩ = some (.slice p1 x.ent.length q1) := by rw [cell_of_row _ _ _ _ _ _ h.row]; rfl
  have i1 := layTexts_all _ x.ent 1 32 4096 hf.el w.drew (Slc.drew h.s2) h.l2 h.ly.drew (fun e0 bs e => by have := hm bs e; have := texts_fit e0 (by omega) (by omega); omega)
  rw [lay] at c0
  have mm := m_laying_texts ⟨c, 0, none⟩
  have HQ := hid h
  clear h hf hm
  go_enter Tryz.func105, Tryz.ntmps105
  go_region_held3 (fun w' => w'.cell? ⟨d, 0, none⟩ = some (.iface 96 (.pointer (some ⟨c, 0, none⟩))) ∧ w'.cell? ⟨d, 6, none⟩ = some (.slice p1 x.ent.length q1)) (first | exact ⟨c0, c4⟩ | exact S2 | exact S3) (first | (go_at_call 157; (with_reducible refine i1.mono ?_); rintro e w2 ⟨rfl, hl⟩; have hl := hl.drew; have hrow := HQ.out.row2 hl; have g0 : w2.frozen? ⟨d, 13, none⟩ = false := frozen_of_row _ _ _ _ _ hrow; have e0 : w2.cell? ⟨d, 13, none⟩ = some (te) := (by rw [cell_of_row _ _ _ _ _ _ hrow]; rfl); have S2 : w2.cell? ⟨d, 0, none⟩ = some (lay c) ∧ w2.cell? ⟨d, 6, none⟩ = some (.slice p1 x.ent.length q1) := ⟨by rw [cell_of_row _ _ _ _ _ _ hrow]; rfl, by rw [cell_of_row _ _ _ _ _ _ hrow]; rfl⟩; have hrow3 := row_set 13 (.slice p1 x.ent.length q1) hrow rfl; have S3 : (w2.setCell ⟨d, 13, none⟩ (.slice p1 x.ent.length q1)).cell? ⟨d, 0, none⟩ = some (lay c) ∧ (w2.setCell ⟨d, 13, none⟩ (.slice p1 x.ent.length q1)).cell? ⟨d, 6, none⟩ = some (.slice p1 x.ent.length q1) := ⟨by rw [cell_of_row _ _ _ _ _ _ hrow3]; rfl, by rw [cell_of_row _ _ _ _ _ _ hrow3]; rfl⟩; rw [lay] at S2 S3; have HL := hid hl; clear hl hrow hrow3))
  go_end0
  exact ⟨rfl, HQ.out.put HL.out 13 _ _ _ _ _ rfl HQ.out.t1 ⟨_, _, rfl⟩ HQ.out.t3⟩
end Msg
end Go.Proofs.YtmhgdcfmfcjagaaGreatDoor
