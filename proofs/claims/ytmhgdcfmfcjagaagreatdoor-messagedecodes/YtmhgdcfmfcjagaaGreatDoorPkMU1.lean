import Derived.Test.YtmhgdcfmfcjagaaGreatDoorPkME16
import Derived.Test.YtmhgdcfmfcjagaaGreatDoorPkMW10
import Derived.Test.YtmhgdcfmfcjagaaGreatDoorPkMV4
import Derived.Test.YtmhgdcfmfcjagaaGreatDoorPkMV3
import Derived.Test.YtmhgdcfmfcjagaaGreatDoorPkMW12
namespace Go.Proofs.YtmhgdcfmfcjagaaGreatDoor
open Go.RowKit Cod
namespace Msg

/-- the j-th element of block g reads as the part x -/
def Elp (w : World) (lo hi g j : Nat) (x : Part) : Prop :=
  ∃ uh ue up, w.cell? ⟨g, j * 8, none⟩ = some (.int .i64 x.status) ∧ w.cell? ⟨g, j * 8 + 1, none⟩ = some (.int .i64 x.size) ∧ w.cell? ⟨g, j * 8 + 2, none⟩ = some (.int .i64 x.a) ∧ w.cell? ⟨g, j * 8 + 3, none⟩ = some (.int .i64 x.b) ∧ w.cell? ⟨g, j * 8 + 4, none⟩ = some (sv x.root) ∧
    w.cell? ⟨g, j * 8 + 5, none⟩ = some uh ∧ w.cell? ⟨g, j * 8 + 6, none⟩ = some ue ∧ w.cell? ⟨g, j * 8 + 7, none⟩ = some up ∧ Nw lo hi uh ∧ Nw lo hi ue ∧ Slc w uh x.hs ∧ Slc w ue x.ent ∧ ∃ p q, up = .slice p x.n q
/-- a list of parts -/
def Ps (w : World) (lo hi : Nat) (u : Value) (l : List Part) : Prop :=
  (u = .slice none 0 0 ∧ l = []) ∨ ∃ g cap, u = .slice (some ⟨g, 0, none⟩) l.length cap ∧ lo ≤ g ∧ g < hi ∧ g < w.heap.size ∧ ∀ j x, l[j]? = some x → Elp w lo hi g j x
theorem Elp.keep {S : Nat → Prop} {w w' : World} {lo hi g j : Nat} {x : Part} (h : Elp w lo hi g j x) (hb : Keep S w w') (hg : ¬ S g) (hl : g < w.heap.size) (hS : ∀ k, lo ≤ k → k < hi → ¬ S k) : Elp w' lo hi g j x := by
  obtain ⟨uh, ue, up, c0, c1, c2, c3, c4, c5, c6, c7, n1, n2, s1, s2, s3⟩ := h
  have key : ∀ o y, w.cell? ⟨g, o, none⟩ = some y → w'.cell? ⟨g, o, none⟩ = some y := fun o y e => by
    rw [World.cell?_of_block (w := w) (hb.block g hl hg)]; exact e
  exact ⟨uh, ue, up, key _ _ c0, key _ _ c1, key _ _ c2, key _ _ c3, key _ _ c4, key _ _ c5, key _ _ c6, key _ _ c7, n1, n2, n1.slc s1 hb hS, n2.slc s2 hb hS, s3⟩
theorem Ps.keep {S : Nat → Prop} {w w' : World} {lo hi : Nat} {u : Value} {l : List Part} (h : Ps w lo hi u l) (hb : Keep S w w') (hS : ∀ k, lo ≤ k → k < hi → ¬ S k) : Ps w' lo hi u l := by
  rcases h with h | ⟨g, cap, rfl, h1, h2, h3, h4⟩
  · exact .inl h
  · exact .inr ⟨g, cap, rfl, h1, h2, Nat.lt_of_lt_of_le h3 hb.size, fun j x hx => (h4 j x hx).keep hb (hS g h1 h2) h3 hS⟩
theorem Ps.shape {w : World} {lo hi : Nat} {u : Value} {l : List Part} (h : Ps w lo hi u l) : ∃ p q, u = .slice p l.length q := by
  rcases h with ⟨rfl, rfl⟩ | ⟨g, cap, rfl, _⟩
  · exact ⟨none, 0, rfl⟩
  · exact ⟨_, _, rfl⟩
theorem Ps.bl {w w' : World} {lo base : Nat} {u : Value} {l : List Part} (h : Ps w lo base u l) (hb : Below base w w') : Ps w' lo base u l :=
  h.keep (S := fun k => base ≤ k) ⟨hb.os, hb.tape, hb.output, hb.size, fun k _ hk => hb.block k (by omega)⟩ (fun k _ h2 => by omega)
theorem Elp.mono {w : World} {lo lo' hi hi' g j : Nat} {x : Part} (h : Elp w lo hi g j x) (hl : lo' ≤ lo) (hb : hi ≤ hi') : Elp w lo' hi' g j x := by
  obtain ⟨uh, ue, up, c0, c1, c2, c3, c4, c5, c6, c7, n1, n2, s⟩ := h
  exact ⟨uh, ue, up, c0, c1, c2, c3, c4, c5, c6, c7, n1.mono hl hb, n2.mono hl hb, s⟩
theorem Ps.mono {w : World} {lo lo' hi hi' : Nat} {u : Value} {l : List Part} (h : Ps w lo hi u l) (hl : lo' ≤ lo) (hb : hi ≤ hi') : Ps w lo' hi' u l := by
  rcases h with h | ⟨g, cap, rfl, h1, h2, h3, h4⟩
  · exact .inl h
  · exact .inr ⟨g, cap, rfl, by omega, by omega, h3, fun j x hx => (h4 j x hx).mono hl hb⟩
structure Ua (w : World) (B b c d : Nat) (p : PR) (th te tp : Value) : Prop where
  tk : Tk w b c p.2
  row : w.heap[d]? = some (.cells (rpArr (tak c) Part.zero (.slice none 0 0) (.slice none 0 0) (.slice none 0 0) p.1.1 th te tp) 114 (0, 0))
  db : d ≠ b
  dc : d ≠ c
  hb : b < B
  hc : c < B
  hd : d < B
  s1 : Slc w th p.1.1.hs
  n1 : Nw B w.heap.size th
  s2 : Slc w te p.1.1.ent
  n2 : Nw B w.heap.size te
  s3 : Ps w B w.heap.size tp p.1.2
  sn : p.1.1.n = p.1.2.length
def UPost (w : World) (B b c d : Nat) (p : PR) (w' : World) : Prop := ∃ th te tp, Ua w' B b c d p th te tp ∧ Keep (DSet b c d) w w'
theorem Ua.lt {w : World} {B b c d : Nat} {p : PR} {th te tp : Value} (h : Ua w B b c d p th te tp) : d < w.heap.size := lt_of_heap h.row
theorem Ua.row2 {w w2 : World} {B b c d : Nat} {p : PR} {th te tp : Value} (h : Ua w B b c d p th te tp) (hk : Keep (BC b c) w w2) : w2.heap[d]? = some (.cells (rpArr (tak c) Part.zero (.slice none 0 0) (.slice none 0 0) (.slice none 0 0) p.1.1 th te tp) 114 (0, 0)) :=
  (hk.block d h.lt (fun e => by rcases e with e | e; exact h.db e; exact h.dc e)).trans h.row
theorem Ua.o1 {w w2 : World} {B b c d : Nat} {p : PR} {th te tp : Value} (h : Ua w B b c d p th te tp) (hk : Keep (BC b c) w w2) : Slc w2 th p.1.1.hs ∧ Nw B w2.heap.size th :=
  ⟨h.n1.slc h.s1 hk (fun _ k1 _ => Ra.nS h.hb h.hc k1), h.n1.mono (Nat.le_refl _) hk.size⟩
theorem Ua.o2 {w w2 : World} {B b c d : Nat} {p : PR} {th te tp : Value} (h : Ua w B b c d p th te tp) (hk : Keep (BC b c) w w2) : Slc w2 te p.1.1.ent ∧ Nw B w2.heap.size te :=
  ⟨h.n2.slc h.s2 hk (fun _ k1 _ => Ra.nS h.hb h.hc k1), h.n2.mono (Nat.le_refl _) hk.size⟩
theorem Ua.o3 {w w2 : World} {B b c d : Nat} {p : PR} {th te tp : Value} (h : Ua w B b c d p th te tp) (hk : Keep (BC b c) w w2) : Ps w2 B w2.heap.size tp p.1.2 :=
  (h.s3.keep hk (fun _ k1 _ => Ra.nS h.hb h.hc k1)).mono (Nat.le_refl _) hk.size
theorem Ua.put {w w2 : World} {B b c d : Nat} {p : PR} {th te tp : Value} (h : Ua w B b c d p th te tp) (hk : Keep (BC b c) w w2) (p' : PR) (ht : Tk w2 b c p'.2)
    (o : Nat) (u : Value) (th' te' tp' : Value) (hr : (rpArr (tak c) Part.zero (.slice none 0 0) (.slice none 0 0) (.slice none 0 0) p.1.1 th te tp).setIfInBounds o u = rpArr (tak c) Part.zero (.slice none 0 0) (.slice none 0 0) (.slice none 0 0) p'.1.1 th' te' tp')
    (a1 : Slc w2 th' p'.1.1.hs ∧ Nw B w2.heap.size th') (a2 : Slc w2 te' p'.1.1.ent ∧ Nw B w2.heap.size te') (a3 : Ps w2 B w2.heap.size tp' p'.1.2) (an : p'.1.1.n = p'.1.2.length) : UPost w B b c d p' (w2.setCell ⟨d, o, none⟩ u) := by
  have hrow := h.row2 hk
  have k2 : Keep (fun k => k = d) w2 (w2.setCell ⟨d, o, none⟩ u) := Keep.ofBut ((But.refl d w2).setCell o u) rfl
  have hS : ∀ k, B ≤ k → k < w2.heap.size → ¬ k = d := fun k k1 _ e => by have := h.hd; omega
  have hsz : (w2.setCell ⟨d, o, none⟩ u).heap.size = w2.heap.size := World.size_setCell _ _ _
  refine ⟨th', te', tp', ⟨ht.keep k2 (fun e => h.db e.symm) (fun e => h.dc e.symm), row_set o u hrow hr, h.db, h.dc, h.hb, h.hc, h.hd, a1.2.slc a1.1 k2 hS, by rw [hsz]; exact a1.2, a2.2.slc a2.1 k2 hS, by rw [hsz]; exact a2.2, by rw [hsz]; exact a3.keep k2 hS, an⟩, ?_⟩
  refine (hk.mono (T := DSet b c d) fun k _ e => ?_).setCell d o u (.inr (.inr rfl))
  rcases e with e | e
  · exact .inl e
  · exact .inr (.inl e)
set_option maxRecDepth 100000 in
set_option maxHeartbeats 2000000 in
theorem u_size {w : World} {B b c d : Nat} {p : PR} {th te tp : Value} (h : Ua w B b c d p th te tp) (hB : B ≤ w.heap.size) (da : TS → List Part × TS) :
    Calls Tryz.prog 117 #[.pointer (some ⟨d, 0, none⟩)] w fun e w' => e = .returned (.tuple #[]) ∧ UPost w B b c d (tFr da .size p) w' := by
  have c0 : w.cell? ⟨d, 0, none⟩ = some (tak c) := by rw [cell_of_row _ _ _ _ _ _ h.row]; rfl
  have c4 : w.cell? ⟨d, 2, none⟩ = some (.int .i64 0) := by rw [cell_of_row _ _ _ _ _ _ h.row]; rfl
  have i1 := takeSize_any 0 w.drew h.tk.drew
  rw [tak] at c0
  have mm := m_taking_size ⟨c, 0, none⟩
  have HQ := hid h
  have HB := hid hB
  clear h hB
  go_enter Tryz.func117, Tryz.ntmps117
  go_region_held3 (fun w' => w'.cell? ⟨d, 0, none⟩ = some (.iface 127 (.pointer (some ⟨c, 0, none⟩))) ∧ w'.cell? ⟨d, 2, none⟩ = some (.int .i64 0)) (first | exact ⟨c0, c4⟩ | exact S2 | exact S3) (first | (go_at_call 179; (with_reducible refine i1.mono ?_); rintro e w2 ⟨rfl, ht, hk⟩; have hk := Keep.drew' hk; have hrow := HQ.out.row2 hk; have g0 : w2.frozen? ⟨d, 10, none⟩ = false := frozen_of_row _ _ _ _ _ hrow; have e0 : w2.cell? ⟨d, 10, none⟩ = some (.int .i64 p.1.1.size) := (by rw [cell_of_row _ _ _ _ _ _ hrow]; rfl); have S2 : w2.cell? ⟨d, 0, none⟩ = some (tak c) ∧ w2.cell? ⟨d, 2, none⟩ = some (.int .i64 0) := ⟨by rw [cell_of_row _ _ _ _ _ _ hrow]; rfl, by rw [cell_of_row _ _ _ _ _ _ hrow]; rfl⟩; have hrow3 := row_set 10 (.int .i64 ((tSize p.2).1 : Int)) hrow rfl; have S3 : (w2.setCell ⟨d, 10, none⟩ (.int .i64 ((tSize p.2).1 : Int))).cell? ⟨d, 0, none⟩ = some (tak c) ∧ (w2.setCell ⟨d, 10, none⟩ (.int .i64 ((tSize p.2).1 : Int))).cell? ⟨d, 2, none⟩ = some (.int .i64 0) := ⟨by rw [cell_of_row _ _ _ _ _ _ hrow3]; rfl, by rw [cell_of_row _ _ _ _ _ _ hrow3]; rfl⟩; rw [tak] at S2 S3; have HK := hid hk; have HT := hid ht; clear hk ht hrow hrow3))
  go_end0
  exact ⟨rfl, HQ.out.put HK.out (tFr da .size p) HT.out 10 _ _ _ _ rfl (HQ.out.o1 HK.out) (HQ.out.o2 HK.out) (HQ.out.o3 HK.out) HQ.out.sn⟩
set_option maxRecDepth 100000 in
set_option maxHeartbeats 2000000 in
theorem u_a {w : World} {B b c d : Nat} {p : PR} {th te tp : Value} (h : Ua w B b c d p th te tp) (hB : B ≤ w.heap.size) (da : TS → List Part × TS) :
    Calls Tryz.prog 118 #[.pointer (some ⟨d, 0, none⟩)] w fun e w' => e = .returned (.tuple #[]) ∧ UPost w B b c d (tFr da .a p) w' := by
  have c0 : w.cell? ⟨d, 0, none⟩ = some (tak c) := by rw [cell_of_row _ _ _ _ _ _ h.row]; rfl
  have c4 : w.cell? ⟨d, 3, none⟩ = some (.int .i64 0) := by rw [cell_of_row _ _ _ _ _ _ h.row]; rfl
  have i1 := takeSize_any 0 w.drew h.tk.drew
  rw [tak] at c0
  have mm := m_taking_size ⟨c, 0, none⟩
  have HQ := hid h
  have HB := hid hB
  clear h hB
  go_enter Tryz.func118, Tryz.ntmps118
  go_region_held3 (fun w' => w'.cell? ⟨d, 0, none⟩ = some (.iface 127 (.pointer (some ⟨c, 0, none⟩))) ∧ w'.cell? ⟨d, 3, none⟩ = some (.int .i64 0)) (first | exact ⟨c0, c4⟩ | exact S2 | exact S3) (first | (go_at_call 179; (with_reducible refine i1.mono ?_); rintro e w2 ⟨rfl, ht, hk⟩; have hk := Keep.drew' hk; have hrow := HQ.out.row2 hk; have g0 : w2.frozen? ⟨d, 11, none⟩ = false := frozen_of_row _ _ _ _ _ hrow; have e0 : w2.cell? ⟨d, 11, none⟩ = some (.int .i64 p.1.1.a) := (by rw [cell_of_row _ _ _ _ _ _ hrow]; rfl); have S2 : w2.cell? ⟨d, 0, none⟩ = some (tak c) ∧ w2.cell? ⟨d, 3, none⟩ = some (.int .i64 0) := ⟨by rw [cell_of_row _ _ _ _ _ _ hrow]; rfl, by rw [cell_of_row _ _ _ _ _ _ hrow]; rfl⟩; have hrow3 := row_set 11 (.int .i64 ((tSize p.2).1 : Int)) hrow rfl; have S3 : (w2.setCell ⟨d, 11, none⟩ (.int .i64 ((tSize p.2).1 : Int))).cell? ⟨d, 0, none⟩ = some (tak c) ∧ (w2.setCell ⟨d, 11, none⟩ (.int .i64 ((tSize p.2).1 : Int))).cell? ⟨d, 3, none⟩ = some (.int .i64 0) := ⟨by rw [cell_of_row _ _ _ _ _ _ hrow3]; rfl, by rw [cell_of_row _ _ _ _ _ _ hrow3]; rfl⟩; rw [tak] at S2 S3; have HK := hid hk; have HT := hid ht; clear hk ht hrow hrow3))
  go_end0
  exact ⟨rfl, HQ.out.put HK.out (tFr da .a p) HT.out 11 _ _ _ _ rfl (HQ.out.o1 HK.out) (HQ.out.o2 HK.out) (HQ.out.o3 HK.out) HQ.out.sn⟩
set_option maxRecDepth 100000 in
set_option maxHeartbeats 2000000 in
theorem u_over {w : World} {B b c d : Nat} {p : PR} {th te tp : Value} (h : Ua w B b c d p th te tp) (hB : B ≤ w.heap.size) (da : TS → List Part × TS) :
    Calls Tryz.prog 119 #[.pointer (some ⟨d, 0, none⟩)] w fun e w' => e = .returned (.tuple #[]) ∧ UPost w B b c d (tFr da .over p) w' := by
  have c0 : w.cell? ⟨d, 0, none⟩ = some (tak c) := by rw [cell_of_row _ _ _ _ _ _ h.row]; rfl
  have c4 : w.cell? ⟨d, 4, none⟩ = some (.int .i64 0) := by rw [cell_of_row _ _ _ _ _ _ h.row]; rfl
  have i1 := takeMark_any 0 0 1 w.drew h.tk.drew
  rw [tak] at c0
  have mm := m_taking_mark ⟨c, 0, none⟩
  have HQ := hid h
  have HB := hid hB
  clear h hB
  go_enter Tryz.func119, Tryz.ntmps119
  go_region_held3 (fun w' => w'.cell? ⟨d, 0, none⟩ = some (.iface 127 (.pointer (some ⟨c, 0, none⟩))) ∧ w'.cell? ⟨d, 4, none⟩ = some (.int .i64 0)) (first | exact ⟨c0, c4⟩ | exact S2 | exact S3) (first | (go_at_call 176; (with_reducible refine i1.mono ?_); rintro e w2 ⟨rfl, ht, hk⟩; have hk := Keep.drew' hk; have hrow := HQ.out.row2 hk; have g0 : w2.frozen? ⟨d, 12, none⟩ = false := frozen_of_row _ _ _ _ _ hrow; have e0 : w2.cell? ⟨d, 12, none⟩ = some (.int .i64 p.1.1.b) := (by rw [cell_of_row _ _ _ _ _ _ hrow]; rfl); have S2 : w2.cell? ⟨d, 0, none⟩ = some (tak c) ∧ w2.cell? ⟨d, 4, none⟩ = some (.int .i64 0) := ⟨by rw [cell_of_row _ _ _ _ _ _ hrow]; rfl, by rw [cell_of_row _ _ _ _ _ _ hrow]; rfl⟩; have hrow3 := row_set 12 (.int .i64 ((tMark 0 1 p.2).1 : Int)) hrow rfl; have S3 : (w2.setCell ⟨d, 12, none⟩ (.int .i64 ((tMark 0 1 p.2).1 : Int))).cell? ⟨d, 0, none⟩ = some (tak c) ∧ (w2.setCell ⟨d, 12, none⟩ (.int .i64 ((tMark 0 1 p.2).1 : Int))).cell? ⟨d, 4, none⟩ = some (.int .i64 0) := ⟨by rw [cell_of_row _ _ _ _ _ _ hrow3]; rfl, by rw [cell_of_row _ _ _ _ _ _ hrow3]; rfl⟩; rw [tak] at S2 S3; have HK := hid hk; have HT := hid ht; clear hk ht hrow hrow3))
  go_end0
  exact ⟨rfl, HQ.out.put HK.out (tFr da .over p) HT.out 12 _ _ _ _ rfl (HQ.out.o1 HK.out) (HQ.out.o2 HK.out) (HQ.out.o3 HK.out) HQ.out.sn⟩
set_option maxRecDepth 100000 in
set_option maxHeartbeats 2000000 in
theorem u_root {w : World} {B b c d : Nat} {p : PR} {th te tp : Value} (h : Ua w B b c d p th te tp) (hB : B ≤ w.heap.size) (da : TS → List Part × TS) :
    Calls Tryz.prog 121 #[.pointer (some ⟨d, 0, none⟩)] w fun e w' => e = .returned (.tuple #[]) ∧ UPost w B b c d (tFr da .root p) w' := by
  have c0 : w.cell? ⟨d, 0, none⟩ = some (tak c) := by rw [cell_of_row _ _ _ _ _ _ h.row]; rfl
  have c4 : w.cell? ⟨d, 5, none⟩ = some (.string ⟨#[]⟩) := by rw [cell_of_row _ _ _ _ _ _ h.row]; rfl
  have i1 := takeRoot_any (.string ⟨#[]⟩) w.drew h.tk.drew
  simp only [sv] at i1
  rw [tak] at c0
  have mm := m_taking_root ⟨c, 0, none⟩
  have HQ := hid h
  have HB := hid hB
  clear h hB
  go_enter Tryz.func121, Tryz.ntmps121
  go_region_held3 (fun w' => w'.cell? ⟨d, 0, none⟩ = some (.iface 127 (.pointer (some ⟨c, 0, none⟩))) ∧ w'.cell? ⟨d, 5, none⟩ = some (.string ⟨#[]⟩)) (first | exact ⟨c0, c4⟩ | exact S2 | exact S3) (first | (go_at_call 178; (with_reducible refine i1.mono ?_); rintro e w2 ⟨rfl, ht, hk⟩; have hk := Keep.drew' hk; have hrow := HQ.out.row2 hk; have g0 : w2.frozen? ⟨d, 13, none⟩ = false := frozen_of_row _ _ _ _ _ hrow; have e0 : w2.cell? ⟨d, 13, none⟩ = some (sv p.1.1.root) := (by rw [cell_of_row _ _ _ _ _ _ hrow]; rfl); have S2 : w2.cell? ⟨d, 0, none⟩ = some (tak c) ∧ w2.cell? ⟨d, 5, none⟩ = some (.string ⟨#[]⟩) := ⟨by rw [cell_of_row _ _ _ _ _ _ hrow]; rfl, by rw [cell_of_row _ _ _ _ _ _ hrow]; rfl⟩; have hrow3 := row_set 13 (.string ⟨(tRoot p.2).1.toArray⟩) hrow rfl; have S3 : (w2.setCell ⟨d, 13, none⟩ (.string ⟨(tRoot p.2).1.toArray⟩)).cell? ⟨d, 0, none⟩ = some (tak c) ∧ (w2.setCell ⟨d, 13, none⟩ (.string ⟨(tRoot p.2).1.toArray⟩)).cell? ⟨d, 5, none⟩ = some (.string ⟨#[]⟩) := ⟨by rw [cell_of_row _ _ _ _ _ _ hrow3]; rfl, by rw [cell_of_row _ _ _ _ _ _ hrow3]; rfl⟩; rw [tak] at S2 S3; have HK := hid hk; have HT := hid ht; clear hk ht hrow hrow3))
  go_end0
  exact ⟨rfl, HQ.out.put HK.out (tFr da .root p) HT.out 13 _ _ _ _ rfl (HQ.out.o1 HK.out) (HQ.out.o2 HK.out) (HQ.out.o3 HK.out) HQ.out.sn⟩
set_option maxRecDepth 100000 in
set_option maxHeartbeats 2000000 in
theorem u_hashes {w : World} {B b c d : Nat} {p : PR} {th te tp : Value} (h : Ua w B b c d p th te tp) (hB : B ≤ w.heap.size) (da : TS → List Part × TS) :
    Calls Tryz.prog 123 #[.pointer (some ⟨d, 0, none⟩)] w fun e w' => e = .returned (.tuple #[]) ∧ UPost w B b c d (tFr da .hashes p) w' := by
  have c0 : w.cell? ⟨d, 0, none⟩ = some (tak c) := by rw [cell_of_row _ _ _ _ _ _ h.row]; rfl
  have c4 : w.cell? ⟨d, 6, none⟩ = some (.slice none 0 0) := by rw [cell_of_row _ _ _ _ _ _ h.row]; rfl
  have i1 := takeHashes_any (.slice none 0 0) w.drew h.tk.drew
  rw [tak] at c0
  have mm := m_taking_hashes ⟨c, 0, none⟩
  have HQ := hid h
  have HB := hid hB
  clear h hB
  go_enter Tryz.func123, Tryz.ntmps123
  go_region_held3 (fun w' => w'.cell? ⟨d, 0, none⟩ = some (.iface 127 (.pointer (some ⟨c, 0, none⟩))) ∧ w'.cell? ⟨d, 6, none⟩ = some (.slice none 0 0)) (first | exact ⟨c0, c4⟩ | exact S2 | exact S3) (first | (go_at_call 175; (with_reducible refine i1.mono ?_); rintro e w2 ⟨v, rfl, ⟨hq, _⟩, hn, ht, hk⟩; obtain ⟨p1, q1, rfl, _⟩ := id hq; have HN := hid (hn.mono HB.out (Nat.le_refl _)); have HV := hid hq; clear hq hn; have hk := Keep.drew' hk; have hrow := HQ.out.row2 hk; have g0 : w2.frozen? ⟨d, 14, none⟩ = false := frozen_of_row _ _ _ _ _ hrow; have e0 : w2.cell? ⟨d, 14, none⟩ = some (th) := (by rw [cell_of_row _ _ _ _ _ _ hrow]; rfl); have S2 : w2.cell? ⟨d, 0, none⟩ = some (tak c) ∧ w2.cell? ⟨d, 6, none⟩ = some (.slice none 0 0) := ⟨by rw [cell_of_row _ _ _ _ _ _ hrow]; rfl, by rw [cell_of_row _ _ _ _ _ _ hrow]; rfl⟩; have hrow3 := row_set 14 (.slice p1 (tHashes p.2).1.length q1) hrow rfl; have S3 : (w2.setCell ⟨d, 14, none⟩ (.slice p1 (tHashes p.2).1.length q1)).cell? ⟨d, 0, none⟩ = some (tak c) ∧ (w2.setCell ⟨d, 14, none⟩ (.slice p1 (tHashes p.2).1.length q1)).cell? ⟨d, 6, none⟩ = some (.slice none 0 0) := ⟨by rw [cell_of_row _ _ _ _ _ _ hrow3]; rfl, by rw [cell_of_row _ _ _ _ _ _ hrow3]; rfl⟩; rw [tak] at S2 S3; have HK := hid hk; have HT := hid ht; clear hk ht hrow hrow3))
  go_end0
  exact ⟨rfl, HQ.out.put HK.out (tFr da .hashes p) HT.out 14 _ _ _ _ rfl ⟨HV.out, HN.out⟩ (HQ.out.o2 HK.out) (HQ.out.o3 HK.out) HQ.out.sn⟩
set_option maxRecDepth 100000 in
set_option maxHeartbeats 2000000 in
theorem u_entries {w : World} {B b c d : Nat} {p : PR} {th te tp : Value} (h : Ua w B b c d p th te tp) (hB : B ≤ w.heap.size) (da : TS → List Part × TS) :
    Calls Tryz.prog 122 #[.pointer (some ⟨d, 0, none⟩)] w fun e w' => e = .returned (.tuple #[]) ∧ UPost w B b c d (tFr da .entries p) w' := by
  have c0 : w.cell? ⟨d, 0, none⟩ = some (tak c) := by rw [cell_of_row _ _ _ _ _ _ h.row]; rfl
  have c4 : w.cell? ⟨d, 7, none⟩ = some (.slice none 0 0) := by rw [cell_of_row _ _ _ _ _ _ h.row]; rfl
  have i1 := takeTexts_any (.slice none 0 0) 0 4096 1000 w.drew h.tk.drew
  rw [tak] at c0
  have mm := m_taking_texts ⟨c, 0, none⟩
  have HQ := hid h
  have HB := hid hB
  clear h hB
  go_enter Tryz.func122, Tryz.ntmps122
  go_region_held3 (fun w' => w'.cell? ⟨d, 0, none⟩ = some (.iface 127 (.pointer (some ⟨c, 0, none⟩))) ∧ w'.cell? ⟨d, 7, none⟩ = some (.slice none 0 0)) (first | exact ⟨c0, c4⟩ | exact S2 | exact S3) (first | (go_at_call 181; (with_reducible refine i1.mono ?_); rintro e w2 ⟨v, rfl, ⟨hq, _⟩, hn, ht, hk⟩; obtain ⟨p1, q1, rfl, _⟩ := id hq; have HN := hid (hn.mono HB.out (Nat.le_refl _)); have HV := hid hq; clear hq hn; have hk := Keep.drew' hk; have hrow := HQ.out.row2 hk; have g0 : w2.frozen? ⟨d, 15, none⟩ = false := frozen_of_row _ _ _ _ _ hrow; have e0 : w2.cell? ⟨d, 15, none⟩ = some (te) := (by rw [cell_of_row _ _ _ _ _ _ hrow]; rfl); have S2 : w2.cell? ⟨d, 0, none⟩ = some (tak c) ∧ w2.cell? ⟨d, 7, none⟩ = some (.slice none 0 0) := ⟨by rw [cell_of_row _ _ _ _ _ _ hrow]; rfl, by rw [cell_of_row _ _ _ _ _ _ hrow]; rfl⟩; have hrow3 := row_set 15 (.slice p1 (tTexts 0 4096 1000 p.2).1.length q1) hrow rfl; have S3 : (w2.setCell ⟨d, 15, none⟩ (.slice p1 (tTexts 0 4096 1000 p.2).1.length q1)).cell? ⟨d, 0, none⟩ = some (tak c) ∧ (w2.setCell ⟨d, 15, none⟩ (.slice p1 (tTexts 0 4096 1000 p.2).1.length q1)).cell? ⟨d, 7, none⟩ = some (.slice none 0 0) := ⟨by rw [cell_of_row _ _ _ _ _ _ hrow3]; rfl, by rw [cell_of_row _ _ _ _ _ _ hrow3]; rfl⟩; rw [tak] at S2 S3; have HK := hid hk; have HT := hid ht; clear hk ht hrow hrow3))
  go_end0
  exact ⟨rfl, HQ.out.put HK.out (tFr da .entries p) HT.out 15 _ _ _ _ rfl (HQ.out.o1 HK.out) ⟨HV.out, HN.out⟩ (HQ.out.o3 HK.out) HQ.out.sn⟩
end Msg
end Go.Proofs.YtmhgdcfmfcjagaaGreatDoor

namespace Go.Proofs.YtmhgdcfmfcjagaaGreatDoor
open Go.RowKit Cod
namespace Msg

/-- a PART that was taken as it should -/
structure Gp (x : Part) : Prop where
  fit : PFit x
  wi : wi x.status 0 8 = true
  self : x.status = 0 → setRs x (fmF x) (Part.of 0) = x
  oth : ¬ x.status = 0 → Part.of x.status = x
theorem lPart_not {x : Part} (h : Gp x) (h0 : ¬ x.status = 0) (s : LS) : lPart x s = lMark x.status 0 8 s := by
  rw [lPart, lTail, if_neg (by rw [isDn, decide_eq_false h0, Bool.and_false]; exact Bool.false_ne_true), stB, if_pos h.wi, h.oth h0, wholeP_self, Bool.not_true, Bool.or_false]
theorem lPart_done {x : Part} (h : Gp x) (h0 : x.status = 0) (s : LS) : lPart x s = lFrs x id (fmF x) (lMark (fm x) 0 1 (lMark 0 0 8 s)) := by
  have hi : isDn x.status 0 = true := by rw [isDn, h.wi, Bool.true_and]; exact decide_eq_true h0
  rw [lPart, lTail, if_pos hi, h.self h0, wholeP_self, Bool.not_true, Bool.or_false, h0]
theorem partL_yes {w : World} {base b c d : Nat} {v : Value} {s : LS} {x : Part} {uh ue up : Value} (h : Pa w base b c d v s x uh ue up Part.zero (.slice none 0 0) (.slice none 0 0) (.slice none 0 0)) (hg : Gp x) (hm : Sm s 140500000000000) :
    Calls Tryz.prog 162 #[.pointer (some ⟨d, 0, none⟩)] w fun e w' => e = .returned (.tuple #[]) ∧ GPost w base b c d v (lPart x s) x uh ue up x w' := by
  by_cases h0 : x.status = 0
  · have hs := hg.self h0
    rw [lPart_done hg h0]
    by_cases hr : x.root = []
    · have h1 : fm x = 0 := if_pos hr
      have h2 : fmF x = [.hashes] := if_pos hr
      have := partL_hashes h hg.fit hm h0 h1
      rw [h2] at hs
      rw [show setR x .hashes (Part.of 0) = x from hs] at this
      rw [h1, h2]
      exact this
    · have h1 : fm x = 1 := if_neg hr
      have h2 : fmF x = [.root] := if_neg hr
      have := partL_root h hg.fit hm h0 h1
      rw [h2] at hs
      rw [show setR x .root (Part.of 0) = x from hs] at this
      rw [h1, h2]
      exact this
  · have := partL_not h (hm.mono (by omega)) hg.wi h0
    rw [hg.oth h0] at this
    rw [lPart_not hg h0]
    exact this
theorem sm_part {x : Part} (h : Gp x) {s : LS} {m : Nat} (hs : Sm s m) : Sm (lPart x s) (m + 343597383680) := by
  by_cases h0 : x.status = 0
  · rw [lPart_done h h0]
    have h1 : Sm (lMark 0 0 8 s) (m + 1) := hs.lif _ _ _
    have h2 : Sm (lMark (fm x) 0 1 (lMark 0 0 8 s)) (m + 1 + 1) := h1.lif _ _ _
    have hl : (fmF x).length = 1 := by unfold fmF; split <;> rfl
    have := sm_fr h.fit (K := 68719476736) (da := id) (fs := fmF x) (Nat.le_refl _) (fun e => by unfold fmF at e; split at e <;> simp at e) (fmF x).length _ _ h2 (Nat.le_refl _)
    rw [List.take_length] at this
    exact this.mono (by rw [hl]; omega)
  · rw [lPart_not h h0]
    exact (hs.lif _ _ _).mono (by simp)
theorem sm_parts : ∀ (l : List Part) {s : LS} {m : Nat}, (∀ x ∈ l, Gp x) → Sm s m → Sm (l.foldl (fun s x => lPart x s) s) (m + l.length * 343597383680)
  | [], s, m, _, hs => by simpa using hs
  | x :: l, s, m, h, hs => by
    have := sm_parts l (s := lPart x s) (m := m + 343597383680) (fun y hy => h y (by simp [hy])) (sm_part (h x (by simp)) hs)
    rw [List.foldl_cons, List.length_cons]
    exact this.mono (by rw [Nat.add_mul]; omega)
theorem parts_snoc (l : List Part) (k : Nat) (hk : k < l.length) (s : LS) : (l.take (k + 1)).foldl (fun s x => lPart x s) s = lPart l[k] ((l.take k).foldl (fun s x => lPart x s) s) := by
  rw [List.take_add_one, List.getElem?_eq_getElem hk, List.foldl_append]; rfl
/-- what is handed in: lists below -/
structure Ap (w : World) (base : Nat) (x : Part) (uh ue up : Value) : Prop where
  l1 : Lw base uh
  l2 : Lw base ue
  s1 : Slc w uh x.hs
  s2 : Slc w ue x.ent
  s3 : ∃ p q, up = .slice p x.n q
/-- a reply on its way, made anew -/
theorem pa_new {w W : World} {base b c d : Nat} {v : Value} {s : LS} {x : Part} {uh ue up : Value} (h : Ly w base b c v s) (hx : Ap w base x uh ue up) (bW : Below w.heap.size w W) (hr : W.heap[d]? = some (.cells (rpArr (lay c) x uh ue up Part.zero (.slice none 0 0) (.slice none 0 0) (.slice none 0 0)) 114 (0, 0))) (hd : w.heap.size ≤ d) :
    Pa W base b c d v s x uh ue up Part.zero (.slice none 0 0) (.slice none 0 0) (.slice none 0 0) :=
  ⟨h.below bW, hr, fun e => by have := (h.ge' _ e).2; omega, Nat.le_trans h.base hd, hx.l1, hx.l2, hx.l1.slc hx.s1 (bW.mono h.base), hx.l2.slc hx.s2 (bW.mono h.base), hx.s3, ⟨_, _, rfl⟩, ⟨_, _, rfl⟩, ⟨_, _, rfl⟩⟩
/-- and what is left of it behind takes -/
theorem lo_end {w W w2 w4 : World} {base b c d : Nat} {v v' : Value} {s2 : LS} (bW : Below w.heap.size w W) (hd : w.heap.size ≤ d) (k : Keep (QSet b c d v) W w2) (f : From W v v') (h4 : Ly w4 base b c v' s2) (k4 : But c w2.drew w4) : Lo w base b c v s2 w4 := by
  refine ⟨v', h4, ?_, fun j hj => ?_⟩
  · have k1 : Keep (LSet b c v) w w2 := (Keep.ofBelow bW : Keep (LSet b c v) w _).trans k fun j hj e => by
      rcases e with e | e
      · omega
      · exact e
    exact (k1.drew).trans (T := fun k => k = c) (Keep.ofBut k4 rfl) fun j _ e => .inl e
  · rcases f j hj with g | g
    · exact .inl g
    · exact .inr (Nat.le_trans bW.size g)

set_option maxRecDepth 100000 in
set_option maxHeartbeats 4000000 in
theorem layParts_yes {w : World} {base lo0 b c : Nat} {v : Value} {s : LS} {u : Value} {l : List Part} (h : Ly w base b c v s) (hu : Ps w lo0 base u l) (hl : wi (l.length : Int) 1 64 = true) (hg : ∀ x ∈ l, Gp x) (hm : Sm s 29000000000000) :
    Calls Tryz.prog 153 #[.pointer (some ⟨c, 0, none⟩), u] w fun e w' => e = .returned u ∧ Lo w base b c v (lParts l s) w' := by
  have i1 := within_any (l.length : Int) 1 64 w
  have i2 := takes_any true w h
  rw [hl] at i1
  have hlen := wi_iff.1 hl
  rw [lParts, if_pos hl, lNum, lif_yes rfl]
  have HA := hid hu
  rcases hu with ⟨_, rfl⟩ | ⟨g, cap, rfl, g1, g2, g3, g4⟩
  · simp at hlen
  have h9 : (digs (l.length : Int).toNat).length ≤ 9 := digs_len9 (by omega)
  have HM := hid hm
  have HG := hid hg
  have HY := hid h
  have H9 := hid h9
  have hb1 : -9223372036854775808 ≤ (l.length : Int) := by omega
  have hb2 : (l.length : Int) ≤ 9223372036854775807 := by omega
  obtain ⟨s1, hs1⟩ : ∃ s1, Hid ((s.1.put (numErr (l.length : Int)) (digs (l.length : Int).toNat), s.2) = s1) := ⟨_, rfl⟩
  rw [hs1.out]
  clear h hm hg hl g4 h9
  go_enter Tryz.func153, Tryz.ntmps153
  go_wp2_with (first
    | (go_at_call 28; refine i1.mono ?_; rintro e w' ⟨rfl, hw'⟩; rw [hw']; clear hw' w')
    | (go_at_call 60; refine i2.mono ?_; rintro e w1 ⟨rfl, h1, h2⟩; have h1 := h1.yes; have d0 := h1.c0; have i3 := wNum_any base b v s.1 (l.length : Int) hb1 hb2 w1 h1.wri h1.base (fun bs e => by have := HM.out bs e; omega); have H1 := hid h1; have H2 := hid h2; clear h1 h2)
    | (go_at_call 158; refine i3.mono ?_; intro e w2 p; obtain ⟨hr, hlo⟩ := Lo.mk' H2.out H1.out p; subst hr; rw [hs1.out] at hlo; have HL := hid hlo; clear hlo p))
  have HS : Hid (Sm s1 29000000000009) := by
    have := HM.out.lif true (numErr (l.length : Int)) (digs (l.length : Int).toNat)
    rw [lif_yes rfl, hs1.out] at this
    exact this.mono (by have := H9.out; omega)
  clear i1 i2 i3 d0
  go_loopw [22] (fun i w' => ∃ k : Nat, k ≤ l.length ∧ i = .int .i64 k ∧ Hid (Lo w base b c v ((l.take k).foldl (fun s x => lPart x s) s1) w')) (fun i _ => l.length - (intOf i).toNat)
  case atStart => exact ⟨0, by omega, rfl, HL⟩
  case round =>
    obtain ⟨k, hk, rfl, hL⟩ := hrel
    by_cases hlt : k < l.length
    · have hlt' : (k : Int) < (l.length : Int) := by omega
      obtain ⟨v', y1, y2, y3⟩ := hL.out
      have bl : Below base w wr := Lo.bl HY.out y2
      rcases HA.out.bl bl with ⟨hz, _⟩ | ⟨g', cap', he, a1, a2, a3, a4⟩
      · cases hz
      injection he with he1 he2 he3
      injection he1 with he1
      injection he1 with he1
      subst he1
      clear he2
      have he3 := he3.symm
      subst he3
      obtain ⟨uh, ue, up, c0, c1, c2, c3, c4, c5, c6, c7, n1, n2, r1, r2, r3⟩ := a4 k l[k] (List.getElem?_eq_getElem hlt)
      have G := HG.out l[k] (List.getElem_mem hlt)
      have hS0 := sm_parts (l.take k) (fun x hx => HG.out x (List.mem_of_mem_take hx)) HS.out
      have hS := hS0.mono (k := 140500000000000) (by rw [List.length_take, Nat.min_eq_left hk]; omega)
      have hsn := parts_snoc l k hlt s1
      obtain ⟨p1, q1, rfl, _⟩ := id r1
      obtain ⟨p2, q2, rfl, _⟩ := id r2
      obtain ⟨p3, q3, rfl⟩ := id r3
      generalize l[k] = x at *
      have bA := ((Below.refl wr.heap.size wr).alloc (Nat.le_refl _) (.cells #[.int .i64 x.status, .int .i64 x.size, .int .i64 x.a, .int .i64 x.b, .string ⟨x.root.toArray⟩, .slice p1 x.hs.length q1, .slice p2 x.ent.length q2, .slice p3 x.n q3] 45)).alloc (by rw [size_alloc]; omega) (.cells (rpArr (lay c) x (.slice p1 x.hs.length q1) (.slice p2 x.ent.length q2) (.slice p3 x.n q3) Part.zero (.slice none 0 0) (.slice none 0 0) (.slice none 0 0)) 114)
      have hP := pa_new (d := wr.heap.size + 1) y1 ⟨n1.lw, n2.lw, r1, r2, ⟨p3, q3, rfl⟩⟩ bA (heap_alloc_at _ _ _ (size_alloc _ _)) (by omega)
      have i4 := partL_yes hP G hS
      have N : Hid (∀ w4 v2 w5, Keep (QSet b c (wr.heap.size + 1) v') ((wr.alloc (.cells #[.int .i64 x.status, .int .i64 x.size, .int .i64 x.a, .int .i64 x.b, .string ⟨x.root.toArray⟩, .slice p1 x.hs.length q1, .slice p2 x.ent.length q2, .slice p3 x.n q3] 45)).alloc (.cells (rpArr (lay c) x (.slice p1 x.hs.length q1) (.slice p2 x.ent.length q2) (.slice p3 x.n q3) Part.zero (.slice none 0 0) (.slice none 0 0) (.slice none 0 0)) 114)) w4 → From ((wr.alloc (.cells #[.int .i64 x.status, .int .i64 x.size, .int .i64 x.a, .int .i64 x.b, .string ⟨x.root.toArray⟩, .slice p1 x.hs.length q1, .slice p2 x.ent.length q2, .slice p3 x.n q3] 45)).alloc (.cells (rpArr (lay c) x (.slice p1 x.hs.length q1) (.slice p2 x.ent.length q2) (.slice p3 x.n q3) Part.zero (.slice none 0 0) (.slice none 0 0) (.slice none 0 0)) 114)) v' v2 → Ly w5 base b c v2 (lPart x ((l.take k).foldl (fun s x => lPart x s) s1)) → But c w4.drew w5 → Lo w base b c v ((l.take (k + 1)).foldl (fun s x => lPart x s) s1) w5) := fun w4 v2 w5 e1 e2 e3 e4 => by
        rw [hsn]
        exact Lo.step y2 y3 (lo_end bA (by omega) e1 e2 e3 e4)
      simp only [lay, rpArr, Part.zero, sv] at i4 N
      clear y1 y2 y3 bl a4 r1 r2 hS hS0 hsn bA G hP
      simp only [sv] at c4
      go_wp2_with (first
        | (go_at_call 162; refine i4.mono ?_; rintro e w4 ⟨rfl, v2, th, te, tp, j1, j2, j3⟩; have i5 := wholeP_yes j1; have i6 := takes_any true w4.drew j1.ly.drew; have J2 := hid j2; have J3 := hid j3; clear j1 j2 j3)
        | (go_at_call 75; refine i5.mono ?_; rintro e w5 ⟨rfl, rfl⟩)
        | (go_at_call 60; refine i6.mono ?_; rintro e w6 ⟨rfl, j4, j5⟩; have N1 := hid (N.out _ _ _ J2.out J3.out j4.yes j5); clear j4 j5))
      exact ⟨⟨k + 1, by omega, by go_num, N1⟩, by simp [intOf]; omega⟩
    · obtain rfl : k = l.length := by omega
      have hL2 := hL.out
      rw [List.take_length] at hL2
      have HL2 := hid hL2
      clear hL2
      go_wp2
      go_ret
      exact ⟨rfl, HL2.out⟩
end Msg
end Go.Proofs.YtmhgdcfmfcjagaaGreatDoor

namespace Go.Proofs.YtmhgdcfmfcjagaaGreatDoor
open Go.RowKit Cod
namespace Msg

set_option maxRecDepth 100000 in
set_option maxHeartbeats 2000000 in
theorem g_parts {w : World} {base lo0 b c d : Nat} {v : Value} {s : LS} {x : Part} {uh ue up : Value} {t : Part} {th te tp : Value} {l : List Part} (h : Pa w base b c d v s x uh ue up t th te tp) (hu : Ps w lo0 base up l) (hn : x.n = l.length) (hl : wi (l.length : Int) 1 64 = true) (hg : ∀ x ∈ l, Gp x) (hm : Sm s 29000000000000) :
    Calls Tryz.prog 120 #[.pointer (some ⟨d, 0, none⟩)] w fun e w' => e = .returned (.tuple #[]) ∧ GPost w base b c d v (lFr x (lParts l) .parts s) x uh ue up (setR x .parts t) w' := by
  have i1 := layParts_yes h.ly.drew (hu.keep (S := fun _ => False) (Keep.refl _ w).drew (fun _ _ _ e => e)) hl hg hm
  obtain ⟨p1, q1, rfl⟩ := hu.shape
  have c0 : w.cell? ⟨d, 0, none⟩ = some (lay c) := by rw [cell_of_row _ _ _ _ _ _ h.row]; rfl
  have c4 : w.cell? ⟨d, 8, none⟩ = some (.slice p1 l.length q1) := by rw [cell_of_row _ _ _ _ _ _ h.row]; rfl
  rw [lay] at c0
  have mm := m_laying_parts ⟨c, 0, none⟩
  have HQ := hid h
  have HN := hid hn
  clear h hm hu hn hg hl
  go_enter Tryz.func120, Tryz.ntmps120
  go_region_held3 (fun w' => w'.cell? ⟨d, 0, none⟩ = some (.iface 96 (.pointer (some ⟨c, 0, none⟩))) ∧ w'.cell? ⟨d, 8, none⟩ = some (.slice p1 l.length q1)) (first | exact ⟨c0, c4⟩ | exact S2 | exact S3) (first | (go_at_call 153; (with_reducible refine i1.mono ?_); rintro e w2 ⟨rfl, hl⟩; have hl := hl.drew; have hrow := HQ.out.row2 hl; have g0 : w2.frozen? ⟨d, 16, none⟩ = false := frozen_of_row _ _ _ _ _ hrow; have e0 : w2.cell? ⟨d, 16, none⟩ = some tp := (by rw [cell_of_row _ _ _ _ _ _ hrow]; rfl); have S2 : w2.cell? ⟨d, 0, none⟩ = some (lay c) ∧ w2.cell? ⟨d, 8, none⟩ = some (.slice p1 l.length q1) := ⟨by rw [cell_of_row _ _ _ _ _ _ hrow]; rfl, by rw [cell_of_row _ _ _ _ _ _ hrow]; rfl⟩; have hrow3 := row_set 16 (.slice p1 l.length q1) hrow rfl; have S3 : (w2.setCell ⟨d, 16, none⟩ (.slice p1 l.length q1)).cell? ⟨d, 0, none⟩ = some (lay c) ∧ (w2.setCell ⟨d, 16, none⟩ (.slice p1 l.length q1)).cell? ⟨d, 8, none⟩ = some (.slice p1 l.length q1) := ⟨by rw [cell_of_row _ _ _ _ _ _ hrow3]; rfl, by rw [cell_of_row _ _ _ _ _ _ hrow3]; rfl⟩; rw [lay] at S2 S3; have HL := hid hl; clear hl hrow hrow3))
  go_end0
  exact ⟨rfl, HQ.out.put HL.out 16 _ _ _ _ _ rfl HQ.out.t1 HQ.out.t2 ⟨p1, q1, by rw [show (setR x .parts t).n = x.n from rfl, HN.out]⟩⟩
/-- a reply that was taken as it should -/
structure Gr (K : Nat) (x : Part) : Prop where
  fit : PFit x
  wi : wi x.status (leastOf (K : Int)) 8 = true
  self : x.status = 0 → setRs x (rflds K) (Part.of 0) = x
  oth : ¬ x.status = 0 → Part.of x.status = x
theorem parts12 {K : Nat} (hK : K ≤ 12) (h : .parts ∈ rflds K) : K = 12 := by
  match K, hK with
  | 0, _ => simp [rflds] at h
  | 1, _ => simp [rflds] at h
  | 2, _ => simp [rflds] at h
  | 3, _ => simp [rflds] at h
  | 4, _ => simp [rflds] at h
  | 5, _ => simp [rflds] at h
  | 6, _ => simp [rflds] at h
  | 7, _ => simp [rflds] at h
  | 8, _ => simp [rflds] at h
  | 9, _ => simp [rflds] at h
  | 10, _ => simp [rflds] at h
  | 11, _ => simp [rflds] at h
  | 12, _ => rfl
theorem payR_yes {w : World} {base lo0 b c d : Nat} {v : Value} {s : LS} {x : Part} {uh ue up : Value} {l : List Part} (h : Pa w base b c d v s x uh ue up Part.zero (.slice none 0 0) (.slice none 0 0) (.slice none 0 0)) (K : Nat) (hK : K ≤ 12) (hg : Gr K x) (hm : Sm s 1000000000000)
    (hu : K = 12 → x.status = 0 → Ps w lo0 base up l ∧ x.n = l.length ∧ wi (l.length : Int) 1 64 = true ∧ ∀ x ∈ l, Gp x) :
    Calls Tryz.prog 74 #[.pointer (some ⟨d, 0, none⟩), .int .i64 (K : Int)] w fun e w' => e = .returned (.tuple #[]) ∧ GPost w base b c d v (lReply (K : Int) x l s) x uh ue up x w' := by
  by_cases h0 : x.status = 0
  · have hK1 : 1 ≤ K := by
      rcases Nat.eq_zero_or_pos K with e | e
      · subst e
        have h2 := hg.wi
        rw [show leastOf ((0 : Nat) : Int) = 1 from rfl, wi_iff] at h2
        omega
      · exact e
    have hi : isDn x.status (leastOf (K : Int)) = true := by rw [isDn, hg.wi, Bool.true_and]; exact decide_eq_true h0
    have hT : lReply (K : Int) x l s = lFrs x (lParts l) (rflds K) (lMark 0 0 8 (lMark (K : Int) (K : Int) (K : Int) s)) := by
      rw [lReply, Int.toNat_natCast, lTail, if_pos hi, hg.self h0, wholeP_self, Bool.not_true, Bool.or_false, h0, least_pos hK1]
    rw [hT]
    have hs := hg.self h0
    have key : ∀ {K0 M : Nat}, 68719476736 ≤ K0 → 1000000000000 + 2 + ((rflds K).length - 1) * K0 ≤ M → (∀ g ∈ rflds K, GC w M base b c d x uh ue up (lParts l) g) → (.parts ∈ rflds K → ∀ s m, Sm s m → Sm (lParts l s) (m + K0)) → _ := fun a1 a2 a3 a4 => payR_done h hg.fit hm (by omega) K hK1 hK h0 a1 a2 (lParts l) a3 a4
    rw [hs] at key
    by_cases h12 : K = 12
    · obtain ⟨u1, u2, u3, u4⟩ := hu h12 h0
      have hfl : rflds K = [.parts] := by rw [h12]; rfl
      refine key (K0 := 27487790694400) (M := 29000000000000) (by omega) (by rw [hfl]; decide) (fun g hgm => ?_) (fun _ s m hs => ?_)
      · rw [hfl, List.mem_singleton] at hgm
        subst hgm
        intro w' v' s' t th te tp hb hQ hS
        exact g_parts hQ (u1.bl hb) u2 u3 u4 hS
      · have hle := (wi_iff.1 u3).2
        rw [lParts, if_pos u3]
        have h9 : (digs (l.length : Int).toNat).length ≤ 9 := digs_len9 (by omega)
        have h5 : Sm (lNum (l.length : Int) s) (m + 9) := (hs.lif _ _ _).mono (by omega)
        have := sm_parts l u4 h5
        exact this.mono (by have : l.length ≤ 64 := (by omega); have := Nat.mul_le_mul_right 343597383680 this; omega)
    · refine key (K0 := 68719476736) (M := 29000000000000) (by omega) (by have := rflds_len K; have : ((rflds K).length - 1) * 68719476736 ≤ 3 * 68719476736 := Nat.mul_le_mul_right _ (by omega); omega) (fun g hgm => gc_six (by omega) hg.fit g (fun e => h12 (parts12 hK (e ▸ hgm)))) (fun e => absurd (parts12 hK e) h12)
  · have hT : lReply (K : Int) x l s = lMark x.status (leastOf (K : Int)) 8 (lMark (K : Int) (K : Int) (K : Int) s) := by
      rw [lReply, lTail, if_neg (by rw [isDn, decide_eq_false h0, Bool.and_false]; exact Bool.false_ne_true), stB, if_pos hg.wi, hg.oth h0, wholeP_self, Bool.not_true, Bool.or_false]
    have := payR_not h hm (by omega) K hg.wi h0
    rw [hg.oth h0] at this
    rw [hT]
    exact this
theorem Ap.bl {w w' : World} {base : Nat} {x : Part} {uh ue up : Value} (h : Ap w base x uh ue up) (hb : Below base w w') : Ap w' base x uh ue up := ⟨h.l1, h.l2, h.l1.slc h.s1 hb, h.l2.slc h.s2 hb, h.s3⟩
theorem Ap.mono {w : World} {base base' : Nat} {x : Part} {uh ue up : Value} (h : Ap w base x uh ue up) (hb : base ≤ base') : Ap w base' x uh ue up :=
  ⟨fun y n c e h0 => Nat.lt_of_lt_of_le (h.l1 y n c e h0) hb, fun y n c e h0 => Nat.lt_of_lt_of_le (h.l2 y n c e h0) hb, h.s1, h.s2, h.s3⟩
set_option maxRecDepth 100000 in
set_option maxHeartbeats 4000000 in
theorem replyL_yes {w : World} {base lo0 b c : Nat} {v : Value} {s : LS} {x : Part} {p1 p2 p3 : Option Addr} {q1 q2 q3 : Nat} {l : List Part} (h : Ly w base b c v s) (hx : Ap w base x (.slice p1 x.hs.length q1) (.slice p2 x.ent.length q2) (.slice p3 x.n q3)) (K : Nat) (hK : K ≤ 12) (hg : Gr K x) (hm : Sm s 1000000000000)
    (hu : K = 12 → x.status = 0 → Ps w lo0 base (.slice p3 x.n q3) l ∧ x.n = l.length ∧ wi (l.length : Int) 1 64 = true ∧ ∀ x ∈ l, Gp x) :
    Calls Tryz.prog 41 #[.pointer (some ⟨c, 0, none⟩), .int .i64 (K : Int), .agg #[.int .i64 x.status, .int .i64 x.size, .int .i64 x.a, .int .i64 x.b, .string ⟨x.root.toArray⟩, .slice p1 x.hs.length q1, .slice p2 x.ent.length q2, .slice p3 x.n q3]] w fun e w' => e = .returned (.tuple #[]) ∧ Lo w base b c v (lReply (K : Int) x l s) w' := by
  have bA := ((Below.refl w.heap.size w).alloc (Nat.le_refl _) (.cells #[.int .i64 x.status, .int .i64 x.size, .int .i64 x.a, .int .i64 x.b, .string ⟨x.root.toArray⟩, .slice p1 x.hs.length q1, .slice p2 x.ent.length q2, .slice p3 x.n q3] 45)).alloc (by rw [size_alloc]; omega) (.cells (rpArr (lay c) x (.slice p1 x.hs.length q1) (.slice p2 x.ent.length q2) (.slice p3 x.n q3) Part.zero (.slice none 0 0) (.slice none 0 0) (.slice none 0 0)) 114)
  have hP := pa_new (d := w.heap.size + 1) h hx bA (heap_alloc_at _ _ _ (size_alloc _ _)) (by omega)
  have i4 := payR_yes (l := l) (lo0 := lo0) hP K hK hg hm (fun e1 e2 => by
    obtain ⟨a1, a2, a3, a4⟩ := hu e1 e2
    exact ⟨a1.bl (bA.mono h.base), a2, a3, a4⟩)
  have N := hid (fun w4 v2 w5 => lo_end (d := w.heap.size + 1) (w2 := w4) (v' := v2) (w4 := w5) (base := base) (b := b) (c := c) (v := v) (s2 := lReply (K : Int) x l s) bA (by omega))
  generalize lReply (K : Int) x l s = s9 at *
  simp only [lay, rpArr, Part.zero, sv] at i4 N
  clear h hx bA hP hu hm hg
  go_enter Tryz.func41, Tryz.ntmps41
  go_wp2_with (first
    | (go_at_call 74; refine i4.mono ?_; rintro e w4 ⟨rfl, v2, th, te, tp, j1, j2, j3⟩; have i5 := wholeP_yes j1; have i6 := takes_any true w4.drew j1.ly.drew; have J2 := hid j2; have J3 := hid j3; clear j1 j2 j3)
    | (go_at_call 75; refine i5.mono ?_; rintro e w5 ⟨rfl, rfl⟩)
    | (go_at_call 60; refine i6.mono ?_; rintro e w6 ⟨rfl, j4, j5⟩; have N1 := hid (N.out _ _ _ J2.out J3.out j4.yes j5); clear j4 j5))
  go_end0
  exact ⟨rfl, N1.out⟩
/-- what was taken whole, and may be handed to EncodeReply -/
structure Rr (w : World) (K : Nat) (x : Part) (l : List Part) (uh ue up : Value) : Prop where
  ak : Ap w w.heap.size x uh ue up
  gr : Gr K x
  ls : K = 12 → x.status = 0 → Ps w 0 w.heap.size up l ∧ x.n = l.length ∧ wi (l.length : Int) 1 64 = true ∧ ∀ x ∈ l, Gp x
set_option maxRecDepth 100000 in
set_option maxHeartbeats 2000000 in
theorem encodeReply_yes {w : World} {K : Nat} {x : Part} {l : List Part} {uh ue up : Value} {p : List UInt8} (T : Lay w) (hK : K ≤ 12) (h : Rr w K x l uh ue up) (hq : lReply (K : Int) x l (.ok [], false) = (.ok p, false)) (hp : p.length ≤ 1048576) :
    Calls Tryz.prog 15 #[.int .i64 (K : Int), rpV x uh ue up] w fun e w' => e = .returned (.tuple #[sv (wrText p), .int .i64 0]) ∧ Below w.heap.size w w' := by
  obtain ⟨p1, q1, rfl, _⟩ := id h.ak.s1
  obtain ⟨p2, q2, rfl, _⟩ := id h.ak.s2
  obtain ⟨p3, q3, rfl⟩ := id h.ak.s3
  have hT := T.lt
  have H := hid h
  have HT := hid T
  have HQ := hid hq
  have hw : wi (K : Int) 0 12 = true := wi_iff.2 ⟨by omega, by omega⟩
  clear h T hq
  rw [rpV, show sv x.root = .string ⟨x.root.toArray⟩ from rfl]
  go_enter Tryz.func15, Tryz.ntmps15
  go_wp2_with (first
    | (go_at_call 28; refine (within_any _ _ _ _).mono ?_; rw [hw]; rintro e w' ⟨rfl, hw'⟩; rw [hw']; clear hw' w')
    | (go_at_call 29; fail))
  obtain ⟨w1, hw1⟩ : ∃ w1, Hid (w.alloc (.cells #[.int .i64 x.status, .int .i64 x.size, .int .i64 x.a, .int .i64 x.b, .string ⟨x.root.toArray⟩, .slice p1 x.hs.length q1, .slice p2 x.ent.length q2, .slice p3 x.n q3] 45) = w1) := ⟨_, rfl⟩
  have b1 : Below w.heap.size w w1 := by rw [← hw1.out]; exact (Below.refl _ _).alloc (Nat.le_refl _) _
  have r1 : w1.heap[w.heap.size]? = some (.cells #[.int .i64 x.status, .int .i64 x.size, .int .i64 x.a, .int .i64 x.b, .string ⟨x.root.toArray⟩, .slice p1 x.hs.length q1, .slice p2 x.ent.length q2, .slice p3 x.n q3] 45 (0, 0)) := by rw [← hw1.out]; exact heap_alloc_new _ _
  have z1 : w1.heap.size = w.heap.size + 1 := by rw [← hw1.out]; exact size_alloc _ _
  rw [hw1.out]
  go_at_call 29
  refine (newWriter_any w1).mono ?_
  rintro e w2 ⟨rfl, n1, n2, n3⟩
  obtain ⟨w3, hw3⟩ : ∃ w3, Hid (w2.alloc (.cells #[.pointer (some ⟨w1.heap.size, 0, none⟩), .bool false] 63) = w3) := ⟨_, rfl⟩
  have b3 : Below w2.heap.size w2 w3 := by rw [← hw3.out]; exact (Below.refl _ _).alloc (Nat.le_refl _) _
  have hr3 : w3.heap[w2.heap.size]? = some (.cells #[.pointer (some ⟨w1.heap.size, 0, none⟩), .bool false] 63 (0, 0)) := by rw [← hw3.out]; exact heap_alloc_new _ _
  have bb : Below w.heap.size w w3 := b1.trans ((n2.mono (by omega)).trans (b3.mono (by have := n2.size; omega)))
  have hY : Ly w3 w1.heap.size w1.heap.size w2.heap.size (.slice none 0 0) (.ok [], false) := ⟨hr3, n1.below b3, by omega, fun e => (by cases e), n2.size⟩
  have r3 : w2.heap[w.heap.size]? = some (.cells #[.int .i64 x.status, .int .i64 x.size, .int .i64 x.a, .int .i64 x.b, .string ⟨x.root.toArray⟩, .slice p1 x.hs.length q1, .slice p2 x.ent.length q2, .slice p3 x.n q3] 45 (0, 0)) := (n2.block _ (by omega)).trans r1
  have c0 : w2.cell? ⟨w.heap.size, 0, none⟩ = some (.int .i64 x.status) := by rw [cell_of_row _ _ _ _ _ _ r3]; rfl
  have c1 : w2.cell? ⟨w.heap.size, 1, none⟩ = some (.int .i64 x.size) := by rw [cell_of_row _ _ _ _ _ _ r3]; rfl
  have c2 : w2.cell? ⟨w.heap.size, 2, none⟩ = some (.int .i64 x.a) := by rw [cell_of_row _ _ _ _ _ _ r3]; rfl
  have c3 : w2.cell? ⟨w.heap.size, 3, none⟩ = some (.int .i64 x.b) := by rw [cell_of_row _ _ _ _ _ _ r3]; rfl
  have c4 : w2.cell? ⟨w.heap.size, 4, none⟩ = some (.string ⟨x.root.toArray⟩) := by rw [cell_of_row _ _ _ _ _ _ r3]; rfl
  have c5 : w2.cell? ⟨w.heap.size, 5, none⟩ = some (.slice p1 x.hs.length q1) := by rw [cell_of_row _ _ _ _ _ _ r3]; rfl
  have c6 : w2.cell? ⟨w.heap.size, 6, none⟩ = some (.slice p2 x.ent.length q2) := by rw [cell_of_row _ _ _ _ _ _ r3]; rfl
  have c7 : w2.cell? ⟨w.heap.size, 7, none⟩ = some (.slice p3 x.n q3) := by rw [cell_of_row _ _ _ _ _ _ r3]; rfl
  have hm0 : Sm (WSt.ok [], false) 1000000000000 := fun bs e => by injection e with e; subst e; simp
  have i1 := replyL_yes (l := l) (lo0 := 0) hY ((H.out.ak.bl bb).mono (by omega : w.heap.size ≤ w1.heap.size)) K hK H.out.gr hm0 (fun e1 e2 => by
    obtain ⟨a1, a2, a3, a4⟩ := H.out.ls e1 e2
    exact ⟨(a1.bl bb).mono (Nat.le_refl _) (by omega), a2, a3, a4⟩)
  rw [HQ.out] at i1
  have HY := hid hY
  have BB := hid bb
  have HT3 : Hid (Lay w3) := HT.out.below bb hT
  have hT1 : 1 ≤ w1.heap.size := by omega
  have hle : w.heap.size ≤ w1.heap.size := by omega
  have hlt2 : w.heap.size < w2.heap.size := by have := n2.size; omega
  have hne2 : ¬ w.heap.size = w2.heap.size := by omega
  clear n1 n2 n3 b1 b3 r1 z1 r3 hr3 hY bb hm0
  rw [← hw3.out] at i1
  go_wp2_with (first
    | (go_at_call 41; refine i1.mono ?_; rintro e w5 ⟨rfl, hlo⟩; rw [hw3.out] at hlo; obtain ⟨v', y1, y2, y3⟩ := hlo; have bl5 := Lo.bl HY.out y2; have i2 := frame_yes y1 (HT3.out.below bl5 hT1) hp; have B5 := hid (BB.out.trans (bl5.mono hle)); clear y1 y2 y3 bl5)
    | (go_at_call 31; refine i2.mono ?_; rintro e w6 ⟨rfl, h6⟩; have B6 := hid (B5.out.trans (h6.mono B5.out.size)); clear h6))
  go_ret2
  exact ⟨rfl, B6.out⟩
end Msg
end Go.Proofs.YtmhgdcfmfcjagaaGreatDoor
