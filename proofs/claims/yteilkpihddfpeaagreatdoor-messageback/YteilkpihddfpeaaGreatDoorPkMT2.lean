import Derived.Test.YteilkpihddfpeaaGreatDoorPkMT1
namespace Go.Proofs.YteilkpihddfpeaaGreatDoor
open Go.RowKit Cod
namespace Msg

def tak (c : Nat) : Value := .iface 81 (.pointer (some ⟨c, 0, none⟩))
def DSet (b c d : Nat) : Nat → Prop := fun k => k = b ∨ k = c ∨ k = d
/-- all that a field of a request is taken with: what has come across lies in block d; lists that came out lie from B on -/
structure Ra (w : World) (B b c d : Nat) (p : PT) (tl te ta : Value) : Prop where
  tk : Tk w b c p.2
  row : w.heap[d]? = some (.cells (aqArr (tak c) Ask.zero (.slice none 0 0) (.slice none 0 0) (.slice none 0 0) p.1.1 tl te ta) 85 (0, 0))
  db : d ≠ b
  dc : d ≠ c
  hb : b < B
  hc : c < B
  hd : d < B
  s1 : SlcI w tl p.1.1.list
  n1 : Nw B w.heap.size tl
  s2 : Slc w te p.1.1.ent
  n2 : Nw B w.heap.size te
  s3 : As w B w.heap.size ta p.1.2
  sn : p.1.1.n = p.1.2.length
def RPost (w : World) (B b c d : Nat) (p : PT) (w' : World) : Prop := ∃ tl te ta, Ra w' B b c d p tl te ta ∧ Keep (DSet b c d) w w'
theorem Ra.lt {w : World} {B b c d : Nat} {p : PT} {tl te ta : Value} (h : Ra w B b c d p tl te ta) : d < w.heap.size := lt_of_heap h.row
theorem Ra.nS {B b c k : Nat} (hb : b < B) (hc : c < B) (hk : B ≤ k) : ¬ BC b c k := fun e => by
  rcases e with e | e <;> omega
theorem Ra.row2 {w w2 : World} {B b c d : Nat} {p : PT} {tl te ta : Value} (h : Ra w B b c d p tl te ta) (hk : Keep (BC b c) w w2) : w2.heap[d]? = some (.cells (aqArr (tak c) Ask.zero (.slice none 0 0) (.slice none 0 0) (.slice none 0 0) p.1.1 tl te ta) 85 (0, 0)) :=
  (hk.block d h.lt (fun e => by rcases e with e | e; exact h.db e; exact h.dc e)).trans h.row
theorem Ra.o1 {w w2 : World} {B b c d : Nat} {p : PT} {tl te ta : Value} (h : Ra w B b c d p tl te ta) (hk : Keep (BC b c) w w2) : SlcI w2 tl p.1.1.list ∧ Nw B w2.heap.size tl :=
  ⟨h.n1.slcI h.s1 hk (fun _ k1 _ => Ra.nS h.hb h.hc k1), h.n1.mono (Nat.le_refl _) hk.size⟩
theorem Ra.o2 {w w2 : World} {B b c d : Nat} {p : PT} {tl te ta : Value} (h : Ra w B b c d p tl te ta) (hk : Keep (BC b c) w w2) : Slc w2 te p.1.1.ent ∧ Nw B w2.heap.size te :=
  ⟨h.n2.slc h.s2 hk (fun _ k1 _ => Ra.nS h.hb h.hc k1), h.n2.mono (Nat.le_refl _) hk.size⟩
theorem El.mono' {w : World} {lo hi hi' g j : Nat} {x : Ask} (h : El w lo hi g j x) (hb : hi ≤ hi') : El w lo hi' g j x := by
  obtain ⟨ul, ue, ua, c0, c1, c2, c3, c4, c5, c6, n1, n2, s1, s2, s3⟩ := h
  exact ⟨ul, ue, ua, c0, c1, c2, c3, c4, c5, c6, n1.mono (Nat.le_refl _) hb, n2.mono (Nat.le_refl _) hb, s1, s2, s3⟩
theorem As.mono' {w : World} {lo hi hi' : Nat} {u : Value} {l : List Ask} (h : As w lo hi u l) (hb : hi ≤ hi') : As w lo hi' u l := by
  rcases h with h | ⟨g, cap, rfl, h1, h2, h3, h4⟩
  · exact .inl h
  · exact .inr ⟨g, cap, rfl, h1, by omega, h3, fun j x hx => (h4 j x hx).mono' hb⟩
theorem Ra.o3 {w w2 : World} {B b c d : Nat} {p : PT} {tl te ta : Value} (h : Ra w B b c d p tl te ta) (hk : Keep (BC b c) w w2) : As w2 B w2.heap.size ta p.1.2 :=
  (h.s3.keep hk (fun _ k1 _ => Ra.nS h.hb h.hc k1)).mono' hk.size
theorem Ra.put {w w2 : World} {B b c d : Nat} {p : PT} {tl te ta : Value} (h : Ra w B b c d p tl te ta) (hk : Keep (BC b c) w w2) (p' : PT) (ht : Tk w2 b c p'.2)
    (o : Nat) (u : Value) (tl' te' ta' : Value) (hr : (aqArr (tak c) Ask.zero (.slice none 0 0) (.slice none 0 0) (.slice none 0 0) p.1.1 tl te ta).setIfInBounds o u = aqArr (tak c) Ask.zero (.slice none 0 0) (.slice none 0 0) (.slice none 0 0) p'.1.1 tl' te' ta')
    (a1 : SlcI w2 tl' p'.1.1.list ∧ Nw B w2.heap.size tl') (a2 : Slc w2 te' p'.1.1.ent ∧ Nw B w2.heap.size te') (a3 : As w2 B w2.heap.size ta' p'.1.2) (an : p'.1.1.n = p'.1.2.length) : RPost w B b c d p' (w2.setCell ⟨d, o, none⟩ u) := by
  have hrow := h.row2 hk
  have k2 : Keep (fun k => k = d) w2 (w2.setCell ⟨d, o, none⟩ u) := Keep.ofBut ((But.refl d w2).setCell o u) rfl
  have hS : ∀ k, B ≤ k → k < w2.heap.size → ¬ k = d := fun k k1 _ e => by have := h.hd; omega
  have hsz : (w2.setCell ⟨d, o, none⟩ u).heap.size = w2.heap.size := World.size_setCell _ _ _
  refine ⟨tl', te', ta', ⟨ht.keep k2 (fun e => h.db e.symm) (fun e => h.dc e.symm), row_set o u hrow hr, h.db, h.dc, h.hb, h.hc, h.hd, a1.2.slcI a1.1 k2 hS, by rw [hsz]; exact a1.2, a2.2.slc a2.1 k2 hS, by rw [hsz]; exact a2.2, by rw [hsz]; exact a3.keep k2 hS, an⟩, ?_⟩
  refine (hk.mono (T := DSet b c d) fun k _ e => ?_).setCell d o u (.inr (.inr rfl))
  rcases e with e | e
  · exact .inl e
  · exact .inr (.inl e)
theorem Keep.drew' {S : Nat → Prop} {w w' : World} (h : Keep S w.drew w') : Keep S w w' := ⟨h.os, h.tape, h.output, h.size, h.block⟩
set_option maxRecDepth 100000 in
set_option maxHeartbeats 2000000 in
theorem r_a {w : World} {B b c d : Nat} {p : PT} {tl te ta : Value} (h : Ra w B b c d p tl te ta) (hB : B ≤ w.heap.size) (da : TS → List Ask × TS) :
    Calls Tryz.prog 58 #[.pointer (some ⟨d, 0, none⟩)] w fun e w' => e = .returned (.tuple #[]) ∧ RPost w B b c d (tFq da .a p) w' := by
  have c0 : w.cell? ⟨d, 0, none⟩ = some (tak c) := by rw [cell_of_row _ _ _ _ _ _ h.row]; rfl
  have c4 : w.cell? ⟨d, 2, none⟩ = some (.int .i64 0) := by rw [cell_of_row _ _ _ _ _ _ h.row]; rfl
  have i1 := takeSize_any 0 w.drew h.tk.drew
  rw [tak] at c0
  have mm := m_taking_size ⟨c, 0, none⟩
  have HQ := hid h
  have HB := hid hB
  clear h hB
  go_enter Tryz.func58, Tryz.ntmps58
  go_region_held3 (fun w' => w'.cell? ⟨d, 0, none⟩ = some (.iface 81 (.pointer (some ⟨c, 0, none⟩))) ∧ w'.cell? ⟨d, 2, none⟩ = some (.int .i64 0)) (first | exact ⟨c0, c4⟩ | exact S2 | exact S3) (first | (go_at_call 115; (with_reducible refine i1.mono ?_); rintro e w2 ⟨rfl, ht, hk⟩; have hk := Keep.drew' hk; have hrow := HQ.out.row2 hk; have g0 : w2.frozen? ⟨d, 9, none⟩ = false := frozen_of_row _ _ _ _ _ hrow; have e0 : w2.cell? ⟨d, 9, none⟩ = some (.int .i64 p.1.1.a) := (by rw [cell_of_row _ _ _ _ _ _ hrow]; rfl); have S2 : w2.cell? ⟨d, 0, none⟩ = some (tak c) ∧ w2.cell? ⟨d, 2, none⟩ = some (.int .i64 0) := ⟨by rw [cell_of_row _ _ _ _ _ _ hrow]; rfl, by rw [cell_of_row _ _ _ _ _ _ hrow]; rfl⟩; have hrow3 := row_set 9 (.int .i64 ((tSize p.2).1 : Int)) hrow rfl; have S3 : (w2.setCell ⟨d, 9, none⟩ (.int .i64 ((tSize p.2).1 : Int))).cell? ⟨d, 0, none⟩ = some (tak c) ∧ (w2.setCell ⟨d, 9, none⟩ (.int .i64 ((tSize p.2).1 : Int))).cell? ⟨d, 2, none⟩ = some (.int .i64 0) := ⟨by rw [cell_of_row _ _ _ _ _ _ hrow3]; rfl, by rw [cell_of_row _ _ _ _ _ _ hrow3]; rfl⟩; rw [tak] at S2 S3; have HK := hid hk; have HT := hid ht; clear hk ht hrow hrow3))
  go_end0
  exact ⟨rfl, HQ.out.put HK.out (tFq da .a p) HT.out 9 _ _ _ _ rfl (HQ.out.o1 HK.out) (HQ.out.o2 HK.out) (HQ.out.o3 HK.out) HQ.out.sn⟩
set_option maxRecDepth 100000 in
set_option maxHeartbeats 2000000 in
theorem r_b {w : World} {B b c d : Nat} {p : PT} {tl te ta : Value} (h : Ra w B b c d p tl te ta) (hB : B ≤ w.heap.size) (da : TS → List Ask × TS) :
    Calls Tryz.prog 61 #[.pointer (some ⟨d, 0, none⟩)] w fun e w' => e = .returned (.tuple #[]) ∧ RPost w B b c d (tFq da .b p) w' := by
  have c0 : w.cell? ⟨d, 0, none⟩ = some (tak c) := by rw [cell_of_row _ _ _ _ _ _ h.row]; rfl
  have c4 : w.cell? ⟨d, 3, none⟩ = some (.int .i64 0) := by rw [cell_of_row _ _ _ _ _ _ h.row]; rfl
  have i1 := takeSize_any 0 w.drew h.tk.drew
  rw [tak] at c0
  have mm := m_taking_size ⟨c, 0, none⟩
  have HQ := hid h
  have HB := hid hB
  clear h hB
  go_enter Tryz.func61, Tryz.ntmps61
  go_region_held3 (fun w' => w'.cell? ⟨d, 0, none⟩ = some (.iface 81 (.pointer (some ⟨c, 0, none⟩))) ∧ w'.cell? ⟨d, 3, none⟩ = some (.int .i64 0)) (first | exact ⟨c0, c4⟩ | exact S2 | exact S3) (first | (go_at_call 115; (with_reducible refine i1.mono ?_); rintro e w2 ⟨rfl, ht, hk⟩; have hk := Keep.drew' hk; have hrow := HQ.out.row2 hk; have g0 : w2.frozen? ⟨d, 10, none⟩ = false := frozen_of_row _ _ _ _ _ hrow; have e0 : w2.cell? ⟨d, 10, none⟩ = some (.int .i64 p.1.1.b) := (by rw [cell_of_row _ _ _ _ _ _ hrow]; rfl); have S2 : w2.cell? ⟨d, 0, none⟩ = some (tak c) ∧ w2.cell? ⟨d, 3, none⟩ = some (.int .i64 0) := ⟨by rw [cell_of_row _ _ _ _ _ _ hrow]; rfl, by rw [cell_of_row _ _ _ _ _ _ hrow]; rfl⟩; have hrow3 := row_set 10 (.int .i64 ((tSize p.2).1 : Int)) hrow rfl; have S3 : (w2.setCell ⟨d, 10, none⟩ (.int .i64 ((tSize p.2).1 : Int))).cell? ⟨d, 0, none⟩ = some (tak c) ∧ (w2.setCell ⟨d, 10, none⟩ (.int .i64 ((tSize p.2).1 : Int))).cell? ⟨d, 3, none⟩ = some (.int .i64 0) := ⟨by rw [cell_of_row _ _ _ _ _ _ hrow3]; rfl, by rw [cell_of_row _ _ _ _ _ _ hrow3]; rfl⟩; rw [tak] at S2 S3; have HK := hid hk; have HT := hid ht; clear hk ht hrow hrow3))
  go_end0
  exact ⟨rfl, HQ.out.put HK.out (tFq da .b p) HT.out 10 _ _ _ _ rfl (HQ.out.o1 HK.out) (HQ.out.o2 HK.out) (HQ.out.o3 HK.out) HQ.out.sn⟩
set_option maxRecDepth 100000 in
set_option maxHeartbeats 2000000 in
theorem r_size {w : World} {B b c d : Nat} {p : PT} {tl te ta : Value} (h : Ra w B b c d p tl te ta) (hB : B ≤ w.heap.size) (da : TS → List Ask × TS) :
    Calls Tryz.prog 57 #[.pointer (some ⟨d, 0, none⟩)] w fun e w' => e = .returned (.tuple #[]) ∧ RPost w B b c d (tFq da .size p) w' := by
  have c0 : w.cell? ⟨d, 0, none⟩ = some (tak c) := by rw [cell_of_row _ _ _ _ _ _ h.row]; rfl
  have c4 : w.cell? ⟨d, 4, none⟩ = some (.int .i64 0) := by rw [cell_of_row _ _ _ _ _ _ h.row]; rfl
  have i1 := takeSize_any 0 w.drew h.tk.drew
  rw [tak] at c0
  have mm := m_taking_size ⟨c, 0, none⟩
  have HQ := hid h
  have HB := hid hB
  clear h hB
  go_enter Tryz.func57, Tryz.ntmps57
  go_region_held3 (fun w' => w'.cell? ⟨d, 0, none⟩ = some (.iface 81 (.pointer (some ⟨c, 0, none⟩))) ∧ w'.cell? ⟨d, 4, none⟩ = some (.int .i64 0)) (first | exact ⟨c0, c4⟩ | exact S2 | exact S3) (first | (go_at_call 115; (with_reducible refine i1.mono ?_); rintro e w2 ⟨rfl, ht, hk⟩; have hk := Keep.drew' hk; have hrow := HQ.out.row2 hk; have g0 : w2.frozen? ⟨d, 11, none⟩ = false := frozen_of_row _ _ _ _ _ hrow; have e0 : w2.cell? ⟨d, 11, none⟩ = some (.int .i64 p.1.1.size) := (by rw [cell_of_row _ _ _ _ _ _ hrow]; rfl); have S2 : w2.cell? ⟨d, 0, none⟩ = some (tak c) ∧ w2.cell? ⟨d, 4, none⟩ = some (.int .i64 0) := ⟨by rw [cell_of_row _ _ _ _ _ _ hrow]; rfl, by rw [cell_of_row _ _ _ _ _ _ hrow]; rfl⟩; have hrow3 := row_set 11 (.int .i64 ((tSize p.2).1 : Int)) hrow rfl; have S3 : (w2.setCell ⟨d, 11, none⟩ (.int .i64 ((tSize p.2).1 : Int))).cell? ⟨d, 0, none⟩ = some (tak c) ∧ (w2.setCell ⟨d, 11, none⟩ (.int .i64 ((tSize p.2).1 : Int))).cell? ⟨d, 4, none⟩ = some (.int .i64 0) := ⟨by rw [cell_of_row _ _ _ _ _ _ hrow3]; rfl, by rw [cell_of_row _ _ _ _ _ _ hrow3]; rfl⟩; rw [tak] at S2 S3; have HK := hid hk; have HT := hid ht; clear hk ht hrow hrow3))
  go_end0
  exact ⟨rfl, HQ.out.put HK.out (tFq da .size p) HT.out 11 _ _ _ _ rfl (HQ.out.o1 HK.out) (HQ.out.o2 HK.out) (HQ.out.o3 HK.out) HQ.out.sn⟩
set_option maxRecDepth 100000 in
set_option maxHeartbeats 2000000 in
theorem r_indices {w : World} {B b c d : Nat} {p : PT} {tl te ta : Value} (h : Ra w B b c d p tl te ta) (hB : B ≤ w.heap.size) (da : TS → List Ask × TS) :
    Calls Tryz.prog 59 #[.pointer (some ⟨d, 0, none⟩)] w fun e w' => e = .returned (.tuple #[]) ∧ RPost w B b c d (tFq da .indices p) w' := by
  have c0 : w.cell? ⟨d, 0, none⟩ = some (tak c) := by rw [cell_of_row _ _ _ _ _ _ h.row]; rfl
  have c4 : w.cell? ⟨d, 5, none⟩ = some (.slice none 0 0) := by rw [cell_of_row _ _ _ _ _ _ h.row]; rfl
  have i1 := takeSizes_any (.slice none 0 0) 256 w.drew h.tk.drew
  rw [tak] at c0
  have mm := m_taking_sizes ⟨c, 0, none⟩
  have HQ := hid h
  have HB := hid hB
  clear h hB
  go_enter Tryz.func59, Tryz.ntmps59
  go_region_held3 (fun w' => w'.cell? ⟨d, 0, none⟩ = some (.iface 81 (.pointer (some ⟨c, 0, none⟩))) ∧ w'.cell? ⟨d, 5, none⟩ = some (.slice none 0 0)) (first | exact ⟨c0, c4⟩ | exact S2 | exact S3) (first | (go_at_call 116; (with_reducible refine i1.mono ?_); rintro e w2 ⟨v, rfl, hq, hn, ht, hk⟩; obtain ⟨p1, q1, rfl, _⟩ := id hq; have HN := hid (hn.mono HB.out (Nat.le_refl _)); have HV := hid hq; clear hq hn; have hk := Keep.drew' hk; have hrow := HQ.out.row2 hk; have g0 : w2.frozen? ⟨d, 12, none⟩ = false := frozen_of_row _ _ _ _ _ hrow; have e0 : w2.cell? ⟨d, 12, none⟩ = some (tl) := (by rw [cell_of_row _ _ _ _ _ _ hrow]; rfl); have S2 : w2.cell? ⟨d, 0, none⟩ = some (tak c) ∧ w2.cell? ⟨d, 5, none⟩ = some (.slice none 0 0) := ⟨by rw [cell_of_row _ _ _ _ _ _ hrow]; rfl, by rw [cell_of_row _ _ _ _ _ _ hrow]; rfl⟩; have hrow3 := row_set 12 (.slice p1 (ints (tSizes 256 p.2).1).length q1) hrow rfl; have S3 : (w2.setCell ⟨d, 12, none⟩ (.slice p1 (ints (tSizes 256 p.2).1).length q1)).cell? ⟨d, 0, none⟩ = some (tak c) ∧ (w2.setCell ⟨d, 12, none⟩ (.slice p1 (ints (tSizes 256 p.2).1).length q1)).cell? ⟨d, 5, none⟩ = some (.slice none 0 0) := ⟨by rw [cell_of_row _ _ _ _ _ _ hrow3]; rfl, by rw [cell_of_row _ _ _ _ _ _ hrow3]; rfl⟩; rw [tak] at S2 S3; have HK := hid hk; have HT := hid ht; clear hk ht hrow hrow3))
  go_end0
  exact ⟨rfl, HQ.out.put HK.out (tFq da .indices p) HT.out 12 _ _ _ _ rfl ⟨HV.out, HN.out⟩ (HQ.out.o2 HK.out) (HQ.out.o3 HK.out) HQ.out.sn⟩
set_option maxRecDepth 100000 in
set_option maxHeartbeats 2000000 in
theorem r_heads {w : World} {B b c d : Nat} {p : PT} {tl te ta : Value} (h : Ra w B b c d p tl te ta) (hB : B ≤ w.heap.size) (da : TS → List Ask × TS) :
    Calls Tryz.prog 60 #[.pointer (some ⟨d, 0, none⟩)] w fun e w' => e = .returned (.tuple #[]) ∧ RPost w B b c d (tFq da .heads p) w' := by
  have c0 : w.cell? ⟨d, 0, none⟩ = some (tak c) := by rw [cell_of_row _ _ _ _ _ _ h.row]; rfl
  have c4 : w.cell? ⟨d, 5, none⟩ = some (.slice none 0 0) := by rw [cell_of_row _ _ _ _ _ _ h.row]; rfl
  have i1 := takeSizes_any (.slice none 0 0) 64 w.drew h.tk.drew
  rw [tak] at c0
  have mm := m_taking_sizes ⟨c, 0, none⟩
  have HQ := hid h
  have HB := hid hB
  clear h hB
  go_enter Tryz.func60, Tryz.ntmps60
  go_region_held3 (fun w' => w'.cell? ⟨d, 0, none⟩ = some (.iface 81 (.pointer (some ⟨c, 0, none⟩))) ∧ w'.cell? ⟨d, 5, none⟩ = some (.slice none 0 0)) (first | exact ⟨c0, c4⟩ | exact S2 | exact S3) (first | (go_at_call 116; (with_reducible refine i1.mono ?_); rintro e w2 ⟨v, rfl, hq, hn, ht, hk⟩; obtain ⟨p1, q1, rfl, _⟩ := id hq; have HN := hid (hn.mono HB.out (Nat.le_refl _)); have HV := hid hq; clear hq hn; have hk := Keep.drew' hk; have hrow := HQ.out.row2 hk; have g0 : w2.frozen? ⟨d, 12, none⟩ = false := frozen_of_row _ _ _ _ _ hrow; have e0 : w2.cell? ⟨d, 12, none⟩ = some (tl) := (by rw [cell_of_row _ _ _ _ _ _ hrow]; rfl); have S2 : w2.cell? ⟨d, 0, none⟩ = some (tak c) ∧ w2.cell? ⟨d, 5, none⟩ = some (.slice none 0 0) := ⟨by rw [cell_of_row _ _ _ _ _ _ hrow]; rfl, by rw [cell_of_row _ _ _ _ _ _ hrow]; rfl⟩; have hrow3 := row_set 12 (.slice p1 (ints (tSizes 64 p.2).1).length q1) hrow rfl; have S3 : (w2.setCell ⟨d, 12, none⟩ (.slice p1 (ints (tSizes 64 p.2).1).length q1)).cell? ⟨d, 0, none⟩ = some (tak c) ∧ (w2.setCell ⟨d, 12, none⟩ (.slice p1 (ints (tSizes 64 p.2).1).length q1)).cell? ⟨d, 5, none⟩ = some (.slice none 0 0) := ⟨by rw [cell_of_row _ _ _ _ _ _ hrow3]; rfl, by rw [cell_of_row _ _ _ _ _ _ hrow3]; rfl⟩; rw [tak] at S2 S3; have HK := hid hk; have HT := hid ht; clear hk ht hrow hrow3))
  go_end0
  exact ⟨rfl, HQ.out.put HK.out (tFq da .heads p) HT.out 12 _ _ _ _ rfl ⟨HV.out, HN.out⟩ (HQ.out.o2 HK.out) (HQ.out.o3 HK.out) HQ.out.sn⟩
set_option maxRecDepth 100000 in
set_option maxHeartbeats 2000000 in
theorem r_entries {w : World} {B b c d : Nat} {p : PT} {tl te ta : Value} (h : Ra w B b c d p tl te ta) (hB : B ≤ w.heap.size) (da : TS → List Ask × TS) :
    Calls Tryz.prog 56 #[.pointer (some ⟨d, 0, none⟩)] w fun e w' => e = .returned (.tuple #[]) ∧ RPost w B b c d (tFq da .entries p) w' := by
  have c0 : w.cell? ⟨d, 0, none⟩ = some (tak c) := by rw [cell_of_row _ _ _ _ _ _ h.row]; rfl
  have c4 : w.cell? ⟨d, 6, none⟩ = some (.slice none 0 0) := by rw [cell_of_row _ _ _ _ _ _ h.row]; rfl
  have i1 := takeTexts_any (.slice none 0 0) 1 32 4096 w.drew h.tk.drew
  rw [tak] at c0
  have mm := m_taking_texts ⟨c, 0, none⟩
  have HQ := hid h
  have HB := hid hB
  clear h hB
  go_enter Tryz.func56, Tryz.ntmps56
  go_region_held3 (fun w' => w'.cell? ⟨d, 0, none⟩ = some (.iface 81 (.pointer (some ⟨c, 0, none⟩))) ∧ w'.cell? ⟨d, 6, none⟩ = some (.slice none 0 0)) (first | exact ⟨c0, c4⟩ | exact S2 | exact S3) (first | (go_at_call 117; (with_reducible refine i1.mono ?_); rintro e w2 ⟨v, rfl, hq, hn, ht, hk⟩; obtain ⟨p1, q1, rfl, _⟩ := id hq; have HN := hid (hn.mono HB.out (Nat.le_refl _)); have HV := hid hq; clear hq hn; have hk := Keep.drew' hk; have hrow := HQ.out.row2 hk; have g0 : w2.frozen? ⟨d, 13, none⟩ = false := frozen_of_row _ _ _ _ _ hrow; have e0 : w2.cell? ⟨d, 13, none⟩ = some (te) := (by rw [cell_of_row _ _ _ _ _ _ hrow]; rfl); have S2 : w2.cell? ⟨d, 0, none⟩ = some (tak c) ∧ w2.cell? ⟨d, 6, none⟩ = some (.slice none 0 0) := ⟨by rw [cell_of_row _ _ _ _ _ _ hrow]; rfl, by rw [cell_of_row _ _ _ _ _ _ hrow]; rfl⟩; have hrow3 := row_set 13 (.slice p1 (tTexts 1 32 4096 p.2).1.length q1) hrow rfl; have S3 : (w2.setCell ⟨d, 13, none⟩ (.slice p1 (tTexts 1 32 4096 p.2).1.length q1)).cell? ⟨d, 0, none⟩ = some (tak c) ∧ (w2.setCell ⟨d, 13, none⟩ (.slice p1 (tTexts 1 32 4096 p.2).1.length q1)).cell? ⟨d, 6, none⟩ = some (.slice none 0 0) := ⟨by rw [cell_of_row _ _ _ _ _ _ hrow3]; rfl, by rw [cell_of_row _ _ _ _ _ _ hrow3]; rfl⟩; rw [tak] at S2 S3; have HK := hid hk; have HT := hid ht; clear hk ht hrow hrow3))
  go_end0
  exact ⟨rfl, HQ.out.put HK.out (tFq da .entries p) HT.out 13 _ _ _ _ rfl (HQ.out.o1 HK.out) ⟨HV.out, HN.out⟩ (HQ.out.o3 HK.out) HQ.out.sn⟩
end Msg
end Go.Proofs.YteilkpihddfpeaaGreatDoor
