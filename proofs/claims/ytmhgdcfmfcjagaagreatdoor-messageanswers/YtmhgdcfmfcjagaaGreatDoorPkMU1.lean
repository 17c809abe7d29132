import Derived.Test.YtmhgdcfmfcjagaaGreatDoorPkMB5
import Derived.Test.YtmhgdcfmfcjagaaGreatDoorPkMW10
namespace Go.Proofs.YtmhgdcfmfcjagaaGreatDoor
open Go.RowKit Cod
namespace Msg
def Elp (w : World) (lo hi g j : Nat) (x : Part) : Prop :=
  ∃ uh ue up, w.cell? ⟨g, j * 8, none⟩ = some (.int .i64 x.status) ∧ w.cell? ⟨g, j * 8 + 1, none⟩ = some (.int .i64 x.size) ∧ w.cell? ⟨g, j * 8 + 2, none⟩ = some (.int .i64 x.a) ∧ w.cell? ⟨g, j * 8 + 3, none⟩ = some (.int .i64 x.b) ∧ w.cell? ⟨g, j * 8 + 4, none⟩ = some (sv x.root) ∧
    w.cell? ⟨g, j * 8 + 5, none⟩ = some uh ∧ w.cell? ⟨g, j * 8 + 6, none⟩ = some ue ∧ w.cell? ⟨g, j * 8 + 7, none⟩ = some up ∧ Nw lo hi uh ∧ Nw lo hi ue ∧ Slc w uh x.hs ∧ Slc w ue x.ent ∧ ∃ p q, up = .slice p x.n q
def Ps (w : World) (lo hi : Nat) (u : Value) (l : List Part) : Prop :=
  (u = .slice none 0 0 ∧ l = []) ∨ ∃ g cap, u = .slice (some ⟨g, 0, none⟩) l.length cap ∧ lo ≤ g ∧ g < hi ∧ g < w.heap.size ∧ ∀ j x, l[j]? = some x → Elp w lo hi g j x
theorem Elp.keep {S : Nat → Prop} {w w' : World} {lo hi g j : Nat} {x : Part} (h : Elp w lo hi g j x) (hb : Keep S w w') (hg : ¬ S g) (hl : g < w.heap.size) (hS : ∀ k, lo ≤ k → k < hi → ¬ S k) : Elp w' lo hi g j x := by
  obtain ⟨uh, ue, up, c0, c1, c2, c3, c4, c5, c6, c7, n1, n2, s1, s2, s3⟩ := h
  have key : ∀ o y, w.cell? ⟨g, o, none⟩ = some y → w'.cell? ⟨g, o, none⟩ = some y := fun o y e => by
    rw [World.cell?_of_block (w := w) (hb.block g hl hg)]; exact e
  exact ⟨uh, ue, up, key _ _ c0, key _ _ c1, key _ _ c2, key _ _ c3, key _ _ c4, key _ _ c5, key _ _ c6, key _ _ c7, n1, n2, n1.slc s1 hb hS, n2.slc s2 hb hS, s3⟩
theorem Ps.keep {S : Nat → Prop} {w w' : World} {lo hi : Nat} {u : Value} {l : List Part} (h : Ps w lo hi u l) (hb : Keep S w w') (hS : ∀ k, lo ≤ k → k < hi → ¬ S k) : Ps w' lo hi u l := by
  rcases h with h | ⟨g, cap, rfl, h1, h2, h3, h4⟩
  · exact .inl h
  · exact .inr ⟨g, cap, rfl, h1, h2, Nat.lt_of_lt_of_le h3 hb.size, fun j x hx => (h4 j x hx).keep hb (hS g h1 h2) h3 hS⟩
theorem Ps.shape {w : World} {lo hi : Nat} {u : Value} {l : List Part} (h : Ps w lo hi u l) : ∃ p q, u = .slice p l.length q := by
  rcases h with ⟨rfl, rfl⟩ | ⟨g, cap, rfl, _⟩
  · exact ⟨none, 0, rfl⟩
  · exact ⟨_, _, rfl⟩
theorem Ps.bl {w w' : World} {lo base : Nat} {u : Value} {l : List Part} (h : Ps w lo base u l) (hb : Below base w w') : Ps w' lo base u l :=
  h.keep (S := fun k => base ≤ k) ⟨hb.os, hb.tape, hb.output, hb.size, fun k _ hk => hb.block k (by omega)⟩ (fun k _ h2 => by omega)
theorem Elp.mono {w : World} {lo lo' hi hi' g j : Nat} {x : Part} (h : Elp w lo hi g j x) (hl : lo' ≤ lo) (hb : hi ≤ hi') : Elp w lo' hi' g j x := by
  obtain ⟨uh, ue, up, c0, c1, c2, c3, c4, c5, c6, c7, n1, n2, s⟩ := h
  exact ⟨uh, ue, up, c0, c1, c2, c3, c4, c5, c6, c7, n1.mono hl hb, n2.mono hl hb, s⟩
theorem Ps.mono {w : World} {lo lo' hi hi' : Nat} {u : Value} {l : List Part} (h : Ps w lo hi u l) (hl : lo' ≤ lo) (hb : hi ≤ hi') : Ps w lo' hi' u l := by
  rcases h with h | ⟨g, cap, rfl, h1, h2, h3, h4⟩
  · exact .inl h
  · exact .inr ⟨g, cap, rfl, by omega, by omega, h3, fun j x hx => (h4 j x hx).mono hl hb⟩
structure Ua (w : World) (B b c d : Nat) (p : PR) (th te tp : Value) : Prop where
  tk : Tk w b c p.2
  row : w.heap[d]? = some (.cells (rpArr (tak c) Part.zero (.slice none 0 0) (.slice none 0 0) (.slice none 0 0) p.1.1 th te tp) 114 (0, 0))
  db : d ≠ b
  dc : d ≠ c
  hb : b < B
  hc : c < B
  hd : d < B
  s1 : Slc w th p.1.1.hs
  n1 : Nw B w.heap.size th
  s2 : Slc w te p.1.1.ent
  n2 : Nw B w.heap.size te
  s3 : Ps w B w.heap.size tp p.1.2
  sn : p.1.1.n = p.1.2.length
  ow : RpO w B p.1 th te tp
def UPost (w : World) (B b c d : Nat) (p : PR) (w' : World) : Prop := ∃ th te tp, Ua w' B b c d p th te tp ∧ Keep (DSet b c d) w w'
theorem Ua.lt {w : World} {B b c d : Nat} {p : PR} {th te tp : Value} (h : Ua w B b c d p th te tp) : d < w.heap.size := lt_of_heap h.row
theorem Ua.row2 {w w2 : World} {B b c d : Nat} {p : PR} {th te tp : Value} (h : Ua w B b c d p th te tp) (hk : Keep (BC b c) w w2) : w2.heap[d]? = some (.cells (rpArr (tak c) Part.zero (.slice none 0 0) (.slice none 0 0) (.slice none 0 0) p.1.1 th te tp) 114 (0, 0)) :=
  (hk.block d h.lt (fun e => by rcases e with e | e; exact h.db e; exact h.dc e)).trans h.row
theorem Ua.o1 {w w2 : World} {B b c d : Nat} {p : PR} {th te tp : Value} (h : Ua w B b c d p th te tp) (hk : Keep (BC b c) w w2) : Slc w2 th p.1.1.hs ∧ Nw B w2.heap.size th :=
  ⟨h.n1.slc h.s1 hk (fun _ k1 _ => Ra.nS h.hb h.hc k1), h.n1.mono (Nat.le_refl _) hk.size⟩
theorem Ua.o2 {w w2 : World} {B b c d : Nat} {p : PR} {th te tp : Value} (h : Ua w B b c d p th te tp) (hk : Keep (BC b c) w w2) : Slc w2 te p.1.1.ent ∧ Nw B w2.heap.size te :=
  ⟨h.n2.slc h.s2 hk (fun _ k1 _ => Ra.nS h.hb h.hc k1), h.n2.mono (Nat.le_refl _) hk.size⟩
theorem Ua.o3 {w w2 : World} {B b c d : Nat} {p : PR} {th te tp : Value} (h : Ua w B b c d p th te tp) (hk : Keep (BC b c) w w2) : Ps w2 B w2.heap.size tp p.1.2 :=
  (h.s3.keep hk (fun _ k1 _ => Ra.nS h.hb h.hc k1)).mono (Nat.le_refl _) hk.size
theorem Ua.o4 {w w2 : World} {B b c d : Nat} {p : PR} {th te tp : Value} (h : Ua w B b c d p th te tp) (hk : Keep (BC b c) w w2) : RpO w2 B p.1 th te tp :=
  h.ow.keep hk (fun _ k1 _ => Ra.nS h.hb h.hc k1)
theorem Ua.put {w w2 : World} {B b c d : Nat} {p : PR} {th te tp : Value} (h : Ua w B b c d p th te tp) (hk : Keep (BC b c) w w2) (p' : PR) (ht : Tk w2 b c p'.2)
    (o : Nat) (u : Value) (th' te' tp' : Value) (hr : (rpArr (tak c) Part.zero (.slice none 0 0) (.slice none 0 0) (.slice none 0 0) p.1.1 th te tp).setIfInBounds o u = rpArr (tak c) Part.zero (.slice none 0 0) (.slice none 0 0) (.slice none 0 0) p'.1.1 th' te' tp')
    (a1 : Slc w2 th' p'.1.1.hs ∧ Nw B w2.heap.size th') (a2 : Slc w2 te' p'.1.1.ent ∧ Nw B w2.heap.size te') (a3 : Ps w2 B w2.heap.size tp' p'.1.2) (an : p'.1.1.n = p'.1.2.length) (aw : RpO w2 B p'.1 th' te' tp') : UPost w B b c d p' (w2.setCell ⟨d, o, none⟩ u) := by
  have hrow := h.row2 hk
  have k2 : Keep (fun k => k = d) w2 (w2.setCell ⟨d, o, none⟩ u) := Keep.ofBut ((But.refl d w2).setCell o u) rfl
  have hS : ∀ k, B ≤ k → k < w2.heap.size → ¬ k = d := fun k k1 _ e => by have := h.hd; omega
  have hsz : (w2.setCell ⟨d, o, none⟩ u).heap.size = w2.heap.size := World.size_setCell _ _ _
  refine ⟨th', te', tp', ⟨ht.keep k2 (fun e => h.db e.symm) (fun e => h.dc e.symm), row_set o u hrow hr, h.db, h.dc, h.hb, h.hc, h.hd, a1.2.slc a1.1 k2 hS, by rw [hsz]; exact a1.2, a2.2.slc a2.1 k2 hS, by rw [hsz]; exact a2.2, by rw [hsz]; exact a3.keep k2 hS, an, aw.keep k2 hS⟩, ?_⟩
  refine (hk.mono (T := DSet b c d) fun k _ e => ?_).setCell d o u (.inr (.inr rfl))
  rcases e with e | e
  · exact .inl e
  · exact .inr (.inl e)
set_option maxRecDepth 100000 in
set_option maxHeartbeats 2000000 in
theorem u_size {w : World} {B b c d : Nat} {p : PR} {th te tp : Value} (h : Ua w B b c d p th te tp) (hB : B ≤ w.heap.size) (da : TS → List Part × TS) :
    Calls Tryz.prog 117 #[.pointer (some ⟨d, 0, none⟩)] w fun e w' => e = .returned (.tuple #[]) ∧ UPost w B b c d (tFr da .size p) w' := by
  have c0 : w.cell? ⟨d, 0, none⟩ = some (tak c) := by rw [cell_of_row _ _ _ _ _ _ h.row]; rfl
  have c4 : w.cell? ⟨d, 2, none⟩ = some (.int .i64 0) := by rw [cell_of_row _ _ _ _ _ _ h.row]; rfl
  have i1 := takeSize_any 0 w.drew h.tk.drew
  rw [tak] at c0
  have mm := m_taking_size ⟨c, 0, none⟩
  have HQ := hid h
  have HB := hid hB
  clear h hB
  go_enter Tryz.func117, Tryz.ntmps117
  go_region_held3 (fun w' => w'.cell? ⟨d, 0, none⟩ = some (.iface 127 (.pointer (some ⟨c, 0, none⟩))) ∧ w'.cell? ⟨d, 2, none⟩ = some (.int .i64 0)) (first | exact ⟨c0, c4⟩ | exact S2 | exact S3) (first | (go_at_call 179; (with_reducible refine i1.mono ?_); rintro e w2 ⟨rfl, ht, hk⟩; have hk := Keep.drew' hk; have hrow := HQ.out.row2 hk; have g0 : w2.frozen? ⟨d, 10, none⟩ = false := frozen_of_row _ _ _ _ _ hrow; have e0 : w2.cell? ⟨d, 10, none⟩ = some (.int .i64 p.1.1.size) := (by rw [cell_of_row _ _ _ _ _ _ hrow]; rfl); have S2 : w2.cell? ⟨d, 0, none⟩ = some (tak c) ∧ w2.cell? ⟨d, 2, none⟩ = some (.int .i64 0) := ⟨by rw [cell_of_row _ _ _ _ _ _ hrow]; rfl, by rw [cell_of_row _ _ _ _ _ _ hrow]; rfl⟩; have hrow3 := row_set 10 (.int .i64 ((tSize p.2).1 : Int)) hrow rfl; have S3 : (w2.setCell ⟨d, 10, none⟩ (.int .i64 ((tSize p.2).1 : Int))).cell? ⟨d, 0, none⟩ = some (tak c) ∧ (w2.setCell ⟨d, 10, none⟩ (.int .i64 ((tSize p.2).1 : Int))).cell? ⟨d, 2, none⟩ = some (.int .i64 0) := ⟨by rw [cell_of_row _ _ _ _ _ _ hrow3]; rfl, by rw [cell_of_row _ _ _ _ _ _ hrow3]; rfl⟩; rw [tak] at S2 S3; have HK := hid hk; have HT := hid ht; clear hk ht hrow hrow3))
  go_end0
  exact ⟨rfl, HQ.out.put HK.out (tFr da .size p) HT.out 10 _ _ _ _ rfl (HQ.out.o1 HK.out) (HQ.out.o2 HK.out) (HQ.out.o3 HK.out) HQ.out.sn (HQ.out.o4 HK.out)⟩
set_option maxRecDepth 100000 in
set_option maxHeartbeats 2000000 in
theorem u_a {w : World} {B b c d : Nat} {p : PR} {th te tp : Value} (h : Ua w B b c d p th te tp) (hB : B ≤ w.heap.size) (da : TS → List Part × TS) :
    Calls Tryz.prog 118 #[.pointer (some ⟨d, 0, none⟩)] w fun e w' => e = .returned (.tuple #[]) ∧ UPost w B b c d (tFr da .a p) w' := by
  have c0 : w.cell? ⟨d, 0, none⟩ = some (tak c) := by rw [cell_of_row _ _ _ _ _ _ h.row]; rfl
  have c4 : w.cell? ⟨d, 3, none⟩ = some (.int .i64 0) := by rw [cell_of_row _ _ _ _ _ _ h.row]; rfl
  have i1 := takeSize_any 0 w.drew h.tk.drew
  rw [tak] at c0
  have mm := m_taking_size ⟨c, 0, none⟩
  have HQ := hid h
  have HB := hid hB
  clear h hB
  go_enter Tryz.func118, Tryz.ntmps118
  go_region_held3 (fun w' => w'.cell? ⟨d, 0, none⟩ = some (.iface 127 (.pointer (some ⟨c, 0, none⟩))) ∧ w'.cell? ⟨d, 3, none⟩ = some (.int .i64 0)) (first | exact ⟨c0, c4⟩ | exact S2 | exact S3) (first | (go_at_call 179; (with_reducible refine i1.mono ?_); rintro e w2 ⟨rfl, ht, hk⟩; have hk := Keep.drew' hk; have hrow := HQ.out.row2 hk; have g0 : w2.frozen? ⟨d, 11, none⟩ = false := frozen_of_row _ _ _ _ _ hrow; have e0 : w2.cell? ⟨d, 11, none⟩ = some (.int .i64 p.1.1.a) := (by rw [cell_of_row _ _ _ _ _ _ hrow]; rfl); have S2 : w2.cell? ⟨d, 0, none⟩ = some (tak c) ∧ w2.cell? ⟨d, 3, none⟩ = some (.int .i64 0) := ⟨by rw [cell_of_row _ _ _ _ _ _ hrow]; rfl, by rw [cell_of_row _ _ _ _ _ _ hrow]; rfl⟩; have hrow3 := row_set 11 (.int .i64 ((tSize p.2).1 : Int)) hrow rfl; have S3 : (w2.setCell ⟨d, 11, none⟩ (.int .i64 ((tSize p.2).1 : Int))).cell? ⟨d, 0, none⟩ = some (tak c) ∧ (w2.setCell ⟨d, 11, none⟩ (.int .i64 ((tSize p.2).1 : Int))).cell? ⟨d, 3, none⟩ = some (.int .i64 0) := ⟨by rw [cell_of_row _ _ _ _ _ _ hrow3]; rfl, by rw [cell_of_row _ _ _ _ _ _ hrow3]; rfl⟩; rw [tak] at S2 S3; have HK := hid hk; have HT := hid ht; clear hk ht hrow hrow3))
  go_end0
  exact ⟨rfl, HQ.out.put HK.out (tFr da .a p) HT.out 11 _ _ _ _ rfl (HQ.out.o1 HK.out) (HQ.out.o2 HK.out) (HQ.out.o3 HK.out) HQ.out.sn (HQ.out.o4 HK.out)⟩
set_option maxRecDepth 100000 in
set_option maxHeartbeats 2000000 in
theorem u_over {w : World} {B b c d : Nat} {p : PR} {th te tp : Value} (h : Ua w B b c d p th te tp) (hB : B ≤ w.heap.size) (da : TS → List Part × TS) :
    Calls Tryz.prog 119 #[.pointer (some ⟨d, 0, none⟩)] w fun e w' => e = .returned (.tuple #[]) ∧ UPost w B b c d (tFr da .over p) w' := by
  have c0 : w.cell? ⟨d, 0, none⟩ = some (tak c) := by rw [cell_of_row _ _ _ _ _ _ h.row]; rfl
  have c4 : w.cell? ⟨d, 4, none⟩ = some (.int .i64 0) := by rw [cell_of_row _ _ _ _ _ _ h.row]; rfl
  have i1 := takeMark_any 0 0 1 w.drew h.tk.drew
  rw [tak] at c0
  have mm := m_taking_mark ⟨c, 0, none⟩
  have HQ := hid h
  have HB := hid hB
  clear h hB
  go_enter Tryz.func119, Tryz.ntmps119
  go_region_held3 (fun w' => w'.cell? ⟨d, 0, none⟩ = some (.iface 127 (.pointer (some ⟨c, 0, none⟩))) ∧ w'.cell? ⟨d, 4, none⟩ = some (.int .i64 0)) (first | exact ⟨c0, c4⟩ | exact S2 | exact S3) (first | (go_at_call 176; (with_reducible refine i1.mono ?_); rintro e w2 ⟨rfl, ht, hk⟩; have hk := Keep.drew' hk; have hrow := HQ.out.row2 hk; have g0 : w2.frozen? ⟨d, 12, none⟩ = false := frozen_of_row _ _ _ _ _ hrow; have e0 : w2.cell? ⟨d, 12, none⟩ = some (.int .i64 p.1.1.b) := (by rw [cell_of_row _ _ _ _ _ _ hrow]; rfl); have S2 : w2.cell? ⟨d, 0, none⟩ = some (tak c) ∧ w2.cell? ⟨d, 4, none⟩ = some (.int .i64 0) := ⟨by rw [cell_of_row _ _ _ _ _ _ hrow]; rfl, by rw [cell_of_row _ _ _ _ _ _ hrow]; rfl⟩; have hrow3 := row_set 12 (.int .i64 ((tMark 0 1 p.2).1 : Int)) hrow rfl; have S3 : (w2.setCell ⟨d, 12, none⟩ (.int .i64 ((tMark 0 1 p.2).1 : Int))).cell? ⟨d, 0, none⟩ = some (tak c) ∧ (w2.setCell ⟨d, 12, none⟩ (.int .i64 ((tMark 0 1 p.2).1 : Int))).cell? ⟨d, 4, none⟩ = some (.int .i64 0) := ⟨by rw [cell_of_row _ _ _ _ _ _ hrow3]; rfl, by rw [cell_of_row _ _ _ _ _ _ hrow3]; rfl⟩; rw [tak] at S2 S3; have HK := hid hk; have HT := hid ht; clear hk ht hrow hrow3))
  go_end0
  exact ⟨rfl, HQ.out.put HK.out (tFr da .over p) HT.out 12 _ _ _ _ rfl (HQ.out.o1 HK.out) (HQ.out.o2 HK.out) (HQ.out.o3 HK.out) HQ.out.sn (HQ.out.o4 HK.out)⟩
set_option maxRecDepth 100000 in
set_option maxHeartbeats 2000000 in
theorem u_root {w : World} {B b c d : Nat} {p : PR} {th te tp : Value} (h : Ua w B b c d p th te tp) (hB : B ≤ w.heap.size) (da : TS → List Part × TS) :
    Calls Tryz.prog 121 #[.pointer (some ⟨d, 0, none⟩)] w fun e w' => e = .returned (.tuple #[]) ∧ UPost w B b c d (tFr da .root p) w' := by
  have c0 : w.cell? ⟨d, 0, none⟩ = some (tak c) := by rw [cell_of_row _ _ _ _ _ _ h.row]; rfl
  have c4 : w.cell? ⟨d, 5, none⟩ = some (.string ⟨#[]⟩) := by rw [cell_of_row _ _ _ _ _ _ h.row]; rfl
  have i1 := takeRoot_any (.string ⟨#[]⟩) w.drew h.tk.drew
  simp only [sv] at i1
  rw [tak] at c0
  have mm := m_taking_root ⟨c, 0, none⟩
  have HQ := hid h
  have HB := hid hB
  clear h hB
  go_enter Tryz.func121, Tryz.ntmps121
  go_region_held3 (fun w' => w'.cell? ⟨d, 0, none⟩ = some (.iface 127 (.pointer (some ⟨c, 0, none⟩))) ∧ w'.cell? ⟨d, 5, none⟩ = some (.string ⟨#[]⟩)) (first | exact ⟨c0, c4⟩ | exact S2 | exact S3) (first | (go_at_call 178; (with_reducible refine i1.mono ?_); rintro e w2 ⟨rfl, ht, hk⟩; have hk := Keep.drew' hk; have hrow := HQ.out.row2 hk; have g0 : w2.frozen? ⟨d, 13, none⟩ = false := frozen_of_row _ _ _ _ _ hrow; have e0 : w2.cell? ⟨d, 13, none⟩ = some (sv p.1.1.root) := (by rw [cell_of_row _ _ _ _ _ _ hrow]; rfl); have S2 : w2.cell? ⟨d, 0, none⟩ = some (tak c) ∧ w2.cell? ⟨d, 5, none⟩ = some (.string ⟨#[]⟩) := ⟨by rw [cell_of_row _ _ _ _ _ _ hrow]; rfl, by rw [cell_of_row _ _ _ _ _ _ hrow]; rfl⟩; have hrow3 := row_set 13 (.string ⟨(tRoot p.2).1.toArray⟩) hrow rfl; have S3 : (w2.setCell ⟨d, 13, none⟩ (.string ⟨(tRoot p.2).1.toArray⟩)).cell? ⟨d, 0, none⟩ = some (tak c) ∧ (w2.setCell ⟨d, 13, none⟩ (.string ⟨(tRoot p.2).1.toArray⟩)).cell? ⟨d, 5, none⟩ = some (.string ⟨#[]⟩) := ⟨by rw [cell_of_row _ _ _ _ _ _ hrow3]; rfl, by rw [cell_of_row _ _ _ _ _ _ hrow3]; rfl⟩; rw [tak] at S2 S3; have HK := hid hk; have HT := hid ht; clear hk ht hrow hrow3))
  go_end0
  exact ⟨rfl, HQ.out.put HK.out (tFr da .root p) HT.out 13 _ _ _ _ rfl (HQ.out.o1 HK.out) (HQ.out.o2 HK.out) (HQ.out.o3 HK.out) HQ.out.sn (HQ.out.o4 HK.out)⟩
set_option maxRecDepth 100000 in
set_option maxHeartbeats 2000000 in
theorem u_hashes {w : World} {B b c d : Nat} {p : PR} {th te tp : Value} (h : Ua w B b c d p th te tp) (hB : B ≤ w.heap.size) (da : TS → List Part × TS) :
    Calls Tryz.prog 123 #[.pointer (some ⟨d, 0, none⟩)] w fun e w' => e = .returned (.tuple #[]) ∧ UPost w B b c d (tFr da .hashes p) w' := by
  have c0 : w.cell? ⟨d, 0, none⟩ = some (tak c) := by rw [cell_of_row _ _ _ _ _ _ h.row]; rfl
  have c4 : w.cell? ⟨d, 6, none⟩ = some (.slice none 0 0) := by rw [cell_of_row _ _ _ _ _ _ h.row]; rfl
  have i1 := takeHashes_any (.slice none 0 0) w.drew h.tk.drew
  rw [tak] at c0
  have mm := m_taking_hashes ⟨c, 0, none⟩
  have HQ := hid h
  have HB := hid hB
  clear h hB
  go_enter Tryz.func123, Tryz.ntmps123
  go_region_held3 (fun w' => w'.cell? ⟨d, 0, none⟩ = some (.iface 127 (.pointer (some ⟨c, 0, none⟩))) ∧ w'.cell? ⟨d, 6, none⟩ = some (.slice none 0 0)) (first | exact ⟨c0, c4⟩ | exact S2 | exact S3) (first | (go_at_call 175; (with_reducible refine i1.mono ?_); rintro e w2 ⟨v, rfl, ⟨hq, ho⟩, hn, ht, hk⟩; obtain ⟨p1, q1, rfl, _⟩ := id hq; have HO := hid ho; clear ho; have HN := hid (hn.mono HB.out (Nat.le_refl _)); have HV := hid hq; clear hq hn; have hk := Keep.drew' hk; have hrow := HQ.out.row2 hk; have g0 : w2.frozen? ⟨d, 14, none⟩ = false := frozen_of_row _ _ _ _ _ hrow; have e0 : w2.cell? ⟨d, 14, none⟩ = some (th) := (by rw [cell_of_row _ _ _ _ _ _ hrow]; rfl); have S2 : w2.cell? ⟨d, 0, none⟩ = some (tak c) ∧ w2.cell? ⟨d, 6, none⟩ = some (.slice none 0 0) := ⟨by rw [cell_of_row _ _ _ _ _ _ hrow]; rfl, by rw [cell_of_row _ _ _ _ _ _ hrow]; rfl⟩; have hrow3 := row_set 14 (.slice p1 (tHashes p.2).1.length q1) hrow rfl; have S3 : (w2.setCell ⟨d, 14, none⟩ (.slice p1 (tHashes p.2).1.length q1)).cell? ⟨d, 0, none⟩ = some (tak c) ∧ (w2.setCell ⟨d, 14, none⟩ (.slice p1 (tHashes p.2).1.length q1)).cell? ⟨d, 6, none⟩ = some (.slice none 0 0) := ⟨by rw [cell_of_row _ _ _ _ _ _ hrow3]; rfl, by rw [cell_of_row _ _ _ _ _ _ hrow3]; rfl⟩; rw [tak] at S2 S3; have HK := hid hk; have HT := hid ht; clear hk ht hrow hrow3))
  go_end0
  exact ⟨rfl, HQ.out.put HK.out (tFr da .hashes p) HT.out 14 _ _ _ _ rfl ⟨HV.out, HN.out⟩ (HQ.out.o2 HK.out) (HQ.out.o3 HK.out) HQ.out.sn (HQ.out.ow.setH HK.out (fun _ k1 _ => Ra.nS HQ.out.hb HQ.out.hc k1) HB.out HO.out rfl rfl rfl)⟩
set_option maxRecDepth 100000 in
set_option maxHeartbeats 2000000 in
theorem u_entries {w : World} {B b c d : Nat} {p : PR} {th te tp : Value} (h : Ua w B b c d p th te tp) (hB : B ≤ w.heap.size) (da : TS → List Part × TS) :
    Calls Tryz.prog 122 #[.pointer (some ⟨d, 0, none⟩)] w fun e w' => e = .returned (.tuple #[]) ∧ UPost w B b c d (tFr da .entries p) w' := by
  have c0 : w.cell? ⟨d, 0, none⟩ = some (tak c) := by rw [cell_of_row _ _ _ _ _ _ h.row]; rfl
  have c4 : w.cell? ⟨d, 7, none⟩ = some (.slice none 0 0) := by rw [cell_of_row _ _ _ _ _ _ h.row]; rfl
  have i1 := takeTexts_any (.slice none 0 0) 0 4096 1000 w.drew h.tk.drew
  rw [tak] at c0
  have mm := m_taking_texts ⟨c, 0, none⟩
  have HQ := hid h
  have HB := hid hB
  clear h hB
  go_enter Tryz.func122, Tryz.ntmps122
  go_region_held3 (fun w' => w'.cell? ⟨d, 0, none⟩ = some (.iface 127 (.pointer (some ⟨c, 0, none⟩))) ∧ w'.cell? ⟨d, 7, none⟩ = some (.slice none 0 0)) (first | exact ⟨c0, c4⟩ | exact S2 | exact S3) (first | (go_at_call 181; (with_reducible refine i1.mono ?_); rintro e w2 ⟨v, rfl, ⟨hq, ho⟩, hn, ht, hk⟩; obtain ⟨p1, q1, rfl, _⟩ := id hq; have HO := hid ho; clear ho; have HN := hid (hn.mono HB.out (Nat.le_refl _)); have HV := hid hq; clear hq hn; have hk := Keep.drew' hk; have hrow := HQ.out.row2 hk; have g0 : w2.frozen? ⟨d, 15, none⟩ = false := frozen_of_row _ _ _ _ _ hrow; have e0 : w2.cell? ⟨d, 15, none⟩ = some (te) := (by rw [cell_of_row _ _ _ _ _ _ hrow]; rfl); have S2 : w2.cell? ⟨d, 0, none⟩ = some (tak c) ∧ w2.cell? ⟨d, 7, none⟩ = some (.slice none 0 0) := ⟨by rw [cell_of_row _ _ _ _ _ _ hrow]; rfl, by rw [cell_of_row _ _ _ _ _ _ hrow]; rfl⟩; have hrow3 := row_set 15 (.slice p1 (tTexts 0 4096 1000 p.2).1.length q1) hrow rfl; have S3 : (w2.setCell ⟨d, 15, none⟩ (.slice p1 (tTexts 0 4096 1000 p.2).1.length q1)).cell? ⟨d, 0, none⟩ = some (tak c) ∧ (w2.setCell ⟨d, 15, none⟩ (.slice p1 (tTexts 0 4096 1000 p.2).1.length q1)).cell? ⟨d, 7, none⟩ = some (.slice none 0 0) := ⟨by rw [cell_of_row _ _ _ _ _ _ hrow3]; rfl, by rw [cell_of_row _ _ _ _ _ _ hrow3]; rfl⟩; rw [tak] at S2 S3; have HK := hid hk; have HT := hid ht; clear hk ht hrow hrow3))
  go_end0
  exact ⟨rfl, HQ.out.put HK.out (tFr da .entries p) HT.out 15 _ _ _ _ rfl (HQ.out.o1 HK.out) ⟨HV.out, HN.out⟩ (HQ.out.o3 HK.out) HQ.out.sn (HQ.out.ow.setE HK.out (fun _ k1 _ => Ra.nS HQ.out.hb HQ.out.hc k1) HB.out HO.out rfl rfl rfl)⟩
end Msg
end Go.Proofs.YtmhgdcfmfcjagaaGreatDoor
