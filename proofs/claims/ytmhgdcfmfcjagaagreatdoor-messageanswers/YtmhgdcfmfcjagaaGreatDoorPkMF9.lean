import Derived.Test.YtmhgdcfmfcjagaaGreatDoorPkXR3
import Derived.Test.YtmhgdcfmfcjagaaGreatDoorPkMF6
import Derived.Test.YtmhgdcfmfcjagaaGreatDoorPkMU4
namespace Go.Proofs.YtmhgdcfmfcjagaaGreatDoor
open Go.RowKit Cod
namespace Msg
abbrev DQ := Part × RS
def dFr : Fr → DQ → DQ
  | .size, p => (⟨p.1.status, ((p.2.val 0 (rdNum p.2.rest) : Nat) : Int), p.1.a, p.1.b, p.1.root, p.1.hs, p.1.ent, p.1.n⟩, p.2.step (rdNum p.2.rest))
  | .a, p => (⟨p.1.status, p.1.size, ((p.2.val 0 (rdNum p.2.rest) : Nat) : Int), p.1.b, p.1.root, p.1.hs, p.1.ent, p.1.n⟩, p.2.step (rdNum p.2.rest))
  | .over, p => (⟨p.1.status, p.1.size, p.1.a, ((p.2.val 0 (rdByte p.2.rest) : Nat) : Int), p.1.root, p.1.hs, p.1.ent, p.1.n⟩, p.2.step (rdByte p.2.rest))
  | .root, p => (⟨p.1.status, p.1.size, p.1.a, p.1.b, p.2.val [] (rdRaw p.2.rest 32), p.1.hs, p.1.ent, p.1.n⟩, p.2.step (rdRaw p.2.rest 32))
  | .hashes, p => (⟨p.1.status, p.1.size, p.1.a, p.1.b, p.1.root, p.2.val [] (rdHashes p.2.rest 32768), p.1.ent, p.1.n⟩, p.2.step (rdHashes p.2.rest 32768))
  | .entries, p => (⟨p.1.status, p.1.size, p.1.a, p.1.b, p.1.root, p.1.hs, p.2.val [] (rdTexts p.2.rest 4096 1000), p.1.n⟩, p.2.step (rdTexts p.2.rest 4096 1000))
  | .parts, p => p
def dFrs (fs : List Fr) (p : DQ) : DQ := fs.foldl (fun p g => dFr g p) p
theorem dFrs_snoc (fs : List Fr) (k : Nat) (hk : k < fs.length) (p : DQ) : dFrs (fs.take (k + 1)) p = dFr fs[k] (dFrs (fs.take k) p) := by
  rw [dFrs, List.take_add_one, List.getElem?_eq_getElem hk, List.foldl_append]; rfl
theorem dFrs_n : ∀ (fs : List Fr) (p : DQ), (dFrs fs p).1.n = p.1.n
  | [], p => rfl
  | g :: fs, p => by
    have := dFrs_n fs (dFr g p)
    show (dFrs fs (dFr g p)).1.n = _
    rw [this]
    cases g <;> rfl
theorem dFrs_status : ∀ (fs : List Fr) (p : DQ), (dFrs fs p).1.status = p.1.status
  | [], p => rfl
  | g :: fs, p => by
    have := dFrs_status fs (dFr g p)
    show (dFrs fs (dFr g p)).1.status = _
    rw [this]
    cases g <;> rfl
structure Dq (w : World) (B b d : Nat) (s : ByteArray) (p : DQ) (vh ve va : Value) : Prop where
  rd : XRd w b s p.2
  row : w.heap[d]? = some (.cells #[.int .i64 p.1.status, .int .i64 p.1.size, .int .i64 p.1.a, .int .i64 p.1.b, sv p.1.root, vh, ve, va] 45 (0, 0))
  db : d ≠ b
  hb : b < B
  hd : d < B
  s1 : Slc w vh p.1.hs
  n1 : Nw B w.heap.size vh
  s2 : Slc w ve p.1.ent
  n2 : Nw B w.heap.size ve
def DPq (w : World) (B b d : Nat) (s : ByteArray) (p : DQ) (va : Value) (w' : World) : Prop := ∃ vh ve, Dq w' B b d s p vh ve va ∧ Keep (fun k => k = b ∨ k = d) w w'
theorem Dq.lt {w : World} {B b d : Nat} {s : ByteArray} {p : DQ} {vh ve va : Value} (h : Dq w B b d s p vh ve va) : d < w.heap.size := lt_of_heap h.row
theorem Dq.row2 {w w2 : World} {B b d : Nat} {s : ByteArray} {p : DQ} {vh ve va : Value} (h : Dq w B b d s p vh ve va) (hk : But b w w2) : w2.heap[d]? = some (.cells #[.int .i64 p.1.status, .int .i64 p.1.size, .int .i64 p.1.a, .int .i64 p.1.b, sv p.1.root, vh, ve, va] 45 (0, 0)) :=
  ((Keep.ofBut hk rfl : Keep (fun k => k = b) w w2).block d h.lt h.db).trans h.row
theorem Dq.put {w w2 : World} {B b d : Nat} {s : ByteArray} {p p' : DQ} {vh ve va vh' ve' : Value} (h : Dq w B b d s p vh ve va) (hk : But b w w2) (hr : XRd w2 b s p'.2) (o : Nat) (u : Value)
    (ha : (#[.int .i64 p.1.status, .int .i64 p.1.size, .int .i64 p.1.a, .int .i64 p.1.b, sv p.1.root, vh, ve, va] : Array Value).setIfInBounds o u = #[.int .i64 p'.1.status, .int .i64 p'.1.size, .int .i64 p'.1.a, .int .i64 p'.1.b, sv p'.1.root, vh', ve', va])
    (h1 : Slc w2 vh' p'.1.hs ∧ Nw B w2.heap.size vh') (h2 : Slc w2 ve' p'.1.ent ∧ Nw B w2.heap.size ve') : DPq w B b d s p' va (w2.setCell ⟨d, o, none⟩ u) := by
  have k0 : Keep (fun k => k = b) w w2 := Keep.ofBut hk rfl
  have k2 : Keep (fun k => k = d) w2 (w2.setCell ⟨d, o, none⟩ u) := Keep.ofBut ((But.refl d w2).setCell o u) rfl
  have hS : ∀ k, B ≤ k → k < w2.heap.size → ¬ k = d := fun k k1 _ e => by have := h.hd; omega
  refine ⟨vh', ve', ⟨hr.keep k2 (fun e => h.db e.symm), row_set o u (h.row2 hk) ha, h.db, h.hb, h.hd, h1.2.slc h1.1 k2 hS, h1.2.mono (Nat.le_refl _) k2.size, h2.2.slc h2.1 k2 hS, h2.2.mono (Nat.le_refl _) k2.size⟩, ?_⟩
  exact (k0.mono (T := fun k => k = b ∨ k = d) fun _ _ e => .inl e).trans k2 (fun _ _ e => .inr e)
theorem Dq.o1 {w w2 : World} {B b d : Nat} {s : ByteArray} {p : DQ} {vh ve va : Value} (h : Dq w B b d s p vh ve va) (hk : But b w w2) : Slc w2 vh p.1.hs ∧ Nw B w2.heap.size vh := by
  have k0 : Keep (fun k => k = b) w w2 := Keep.ofBut hk rfl
  exact ⟨h.n1.slc h.s1 k0 (fun k k1 _ e => by have := h.hb; omega), h.n1.mono (Nat.le_refl _) k0.size⟩
theorem Dq.o2 {w w2 : World} {B b d : Nat} {s : ByteArray} {p : DQ} {vh ve va : Value} (h : Dq w B b d s p vh ve va) (hk : But b w w2) : Slc w2 ve p.1.ent ∧ Nw B w2.heap.size ve := by
  have k0 : Keep (fun k => k = b) w w2 := Keep.ofBut hk rfl
  exact ⟨h.n2.slc h.s2 k0 (fun k k1 _ e => by have := h.hb; omega), h.n2.mono (Nat.le_refl _) k0.size⟩
theorem Dq.but {w w2 : World} {B b d : Nat} {s : ByteArray} {p : DQ} {st : RS} {vh ve va : Value} (h : Dq w B b d s p vh ve va) (hk : But b w w2) (hr : XRd w2 b s st) : Dq w2 B b d s (p.1, st) vh ve va :=
  ⟨hr, h.row2 hk, h.db, h.hb, h.hd, (h.o1 hk).1, (h.o1 hk).2, (h.o2 hk).1, (h.o2 hk).2⟩
theorem DPq.step {w w1 w2 : World} {B b d : Nat} {s : ByteArray} {p : DQ} {va : Value} (k : Keep (fun k => k = b ∨ k = d) w w1) (h : DPq w1 B b d s p va w2) : DPq w B b d s p va w2 := by
  obtain ⟨vh, ve, h1, h2⟩ := h
  exact ⟨vh, ve, h1, k.trans h2 (fun _ _ e => e)⟩
def PPo (w : World) (b : Nat) (s : ByteArray) (p : DQ) (e : Ending) (w' : World) : Prop :=
  ∃ vh ve, e = .returned (rpV p.1 vh ve (.slice none 0 0)) ∧ Slc w' vh p.1.hs ∧ Nw w.heap.size w'.heap.size vh ∧ Slc w' ve p.1.ent ∧ Nw w.heap.size w'.heap.size ve ∧ p.1.n = 0 ∧ XRd w' b s p.2 ∧ Keep (fun k => k = b) w w'
def dPrt (st : RS) : DQ :=
  if st.val 0 (rdByte st.rest) = 0 then
    (if (st.step (rdByte st.rest)).val 0 (rdByte (st.step (rdByte st.rest)).rest) = 1 then dFr .root (Part.of 0, (st.step (rdByte st.rest)).step (rdByte (st.step (rdByte st.rest)).rest)) else dFr .hashes (Part.of 0, (st.step (rdByte st.rest)).step (rdByte (st.step (rdByte st.rest)).rest)))
  else (Part.of ((st.val 0 (rdByte st.rest) : Nat) : Int), st.step (rdByte st.rest))
set_option maxRecDepth 100000 in
set_option maxHeartbeats 8000000 in
theorem takePart17_not {w : World} {b : Nat} {s : ByteArray} {st : RS} (h : XRd w b s st) (K : Nat) (hK : st.val 0 (rdByte st.rest) = K) (hK0 : ¬ K = 0) :
    Calls Tryz.prog 91 #[.pointer (some ⟨b, 0, none⟩)] w (PPo w b s (Part.of (K : Int), st.step (rdByte st.rest))) := by
  have hbl := h.lt
  have bA := (Below.refl w.heap.size w).alloc (Nat.le_refl _) (.cells #[.int .i64 0, .int .i64 0, .int .i64 0, .int .i64 0, .string ⟨#[]⟩, .slice none 0 0, .slice none 0 0, .slice none 0 0] 45)
  have rA := heap_alloc_new w (.cells #[.int .i64 0, .int .i64 0, .int .i64 0, .int .i64 0, .string ⟨#[]⟩, .slice none 0 0, .slice none 0 0, .slice none 0 0] 45)
  have zA := size_alloc w (.cells #[.int .i64 0, .int .i64 0, .int .i64 0, .int .i64 0, .string ⟨#[]⟩, .slice none 0 0, .slice none 0 0, .slice none 0 0] 45)
  have i1 := xByte_any b s st _ (h.below bA)
  have BA := hid bA
  have RA := hid rA
  obtain ⟨st1, hst⟩ : ∃ st1, Hid (st.step (rdByte st.rest) = st1) := ⟨_, rfl⟩
  rw [hK, hst.out] at i1
  rw [hst.out]
  have y0 : ((K : Int) == 0) = false := by simp; omega
  have y1 : ¬ (K : Int) = 0 := by omega
  have y2 : ((K : Int) != 0) = true := by simp; omega
  have y3 : ((Part.of (K : Int)).status == 0) = false := y0
  have y4 : ((Part.of (K : Int)).status != 0) = true := y2
  have HN0 : Hid ((Part.of (K : Int), st1).1.n = 0) := rfl
  clear h bA rA hK hK0
  go_enter Tryz.func91, Tryz.ntmps91
  go_wp2_with (go_at_call 56; fail)
  go_at_call 56
  refine i1.mono ?_
  rintro e w1 ⟨rfl, g1, g2⟩
  have k1 : Keep (fun k => k = b) w w1 := (Keep.ofBelow BA.out : Keep (fun k => k = b) w _).trans (T := fun k => k = b) (Keep.ofBut g2 rfl) (fun _ _ e => e)
  have r1 := ((Keep.ofBut g2 rfl : Keep (fun k => k = b) _ w1).block w.heap.size (by omega) (by omega)).trans RA.out
  have z1 : w.heap.size < w1.heap.size := by have := (Keep.ofBut g2 rfl : Keep (fun k => k = b) _ w1).size; omega
  have b2 := (Below.refl w1.heap.size w1).alloc (Nat.le_refl _) (.cells #[.int .i64 (K : Int), .int .i64 0, .int .i64 0, .int .i64 0, .string ⟨#[]⟩, .slice none 0 0, .slice none 0 0, .slice none 0 0] 45)
  have r2 := heap_alloc_new w1 (.cells #[.int .i64 (K : Int), .int .i64 0, .int .i64 0, .int .i64 0, .string ⟨#[]⟩, .slice none 0 0, .slice none 0 0, .slice none 0 0] 45)
  have zz2 := size_alloc w1 (.cells #[.int .i64 (K : Int), .int .i64 0, .int .i64 0, .int .i64 0, .string ⟨#[]⟩, .slice none 0 0, .slice none 0 0, .slice none 0 0] 45)
  have D0 : Hid (Dq (w1.alloc (.cells #[.int .i64 (K : Int), .int .i64 0, .int .i64 0, .int .i64 0, .string ⟨#[]⟩, .slice none 0 0, .slice none 0 0, .slice none 0 0] 45)) (w1.heap.size + 1) b w1.heap.size s (Part.of ((K : Int)), st1) (.slice none 0 0) (.slice none 0 0) (.slice none 0 0)) := ⟨g1.below b2, r2, by omega, by omega, by omega, nilT _, Nw.nil _ _, nilT _, Nw.nil _ _⟩
  have R2 := hid ((b2.block _ z1).trans r1)
  have K2 : Hid (Keep (fun k => k = b) w (w1.alloc (.cells #[.int .i64 (K : Int), .int .i64 0, .int .i64 0, .int .i64 0, .string ⟨#[]⟩, .slice none 0 0, .slice none 0 0, .slice none 0 0] 45))) := k1.trans (T := fun _ => False) (Keep.ofBelow b2) (fun _ _ e => e.elim)
  obtain ⟨c0, c1, c2, c3, c4, c5, c6, c7⟩ := rp_cells (x := Part.of ((K : Int))) (P := ⟨#[]⟩) r2
  simp only [Part.of] at c0 c1 c2 c3
  have HZ2 := hid zz2
  clear g1 g2 k1 r1 b2 r2 i1 zz2
  go_upto_region 2 with fail
  obtain ⟨W2, hW2⟩ : ∃ W2, Hid (w1.alloc (.cells #[.int .i64 (K : Int), .int .i64 0, .int .i64 0, .int .i64 0, .string ⟨#[]⟩, .slice none 0 0, .slice none 0 0, .slice none 0 0] 45) = W2) := ⟨_, rfl⟩
  rw [hW2.out] at D0 R2 K2 HZ2 c0 c1 c2 c3 c4 c5 c6 c7 ⊢
  generalize w1.heap.size = d at *
  have HD : Hid (DPq W2 (d + 1) b d s (Part.of (K : Int), st1) (.slice none 0 0) W2) := ⟨_, _, D0.out, Keep.refl _ _⟩
  clear c0 c1 c2 c3 c4 c5 c6 c7 D0
  obtain ⟨vh, ve, D1, D2⟩ := HD.out
  obtain ⟨PS, hPS⟩ := pstr (Part.of (K : Int)).root
  have rw_ := D1.row
  rw [hPS.out.1] at rw_
  obtain ⟨a1, n1, e1, _⟩ := id D1.s1
  obtain ⟨a2, n2, e2, _⟩ := id D1.s2
  subst e1 e2
  obtain ⟨d0, d1, d2, d3, d4, d5, d6, d7⟩ := rp_cells rw_
  have R3 := hid ((D2.block w.heap.size (by have := HZ2.out; omega) (by omega)).trans R2.out)
  obtain ⟨_, _, OUT⟩ : ∃ (_ : True) (_ : True), Hid (∀ cs, #[Value.int .i64 ((Part.of (K : Int), st1)).1.status, .int .i64 ((Part.of (K : Int), st1)).1.size, .int .i64 ((Part.of (K : Int), st1)).1.a, .int .i64 ((Part.of (K : Int), st1)).1.b, .string PS, .slice a1 ((Part.of (K : Int), st1)).1.hs.length n1, .slice a2 ((Part.of (K : Int), st1)).1.ent.length n2, .slice none 0 0] = cs → PPo w b s ((Part.of (K : Int), st1)) (.returned (.agg cs)) (W2.setRow w.heap.size cs)) := ⟨trivial, trivial, fun cs hcs => by
    have k1 : Keep (fun k => k = w.heap.size) W2 (W2.setRow w.heap.size cs) := ⟨rfl, rfl, rfl, by rw [setRow_size]; exact Nat.le_refl _, fun k _ hk => setRow_other W2 _ k _ hk⟩
    have hS : ∀ k, d + 1 ≤ k → k < W2.heap.size → ¬ k = w.heap.size := fun k k1 _ e => by omega
    have hle : W2.heap.size ≤ (W2.setRow w.heap.size cs).heap.size := k1.size
    refine ⟨_, _, by (rw [rpV, hPS.out.1, ← hcs]; try rfl), D1.n1.slc D1.s1 k1 hS, D1.n1.mono (by omega) hle, D1.n2.slc D1.s2 k1 hS, D1.n2.mono (by omega) hle, HN0.out, D1.rd.keep k1 (by omega), ?_⟩
    refine (K2.out.trans D2 fun j hj e => ?_).trans k1 fun j hj e => ?_
    · rcases e with e | e
      · exact e
      · omega
    · omega⟩
  clear D1 D2 rw_ HD
  go_wp2_with ((with_reducible show wpList _ _ _ (Oper.mk _ (Op.store 45 _ _) _ _ _ _ :: _) _ _); go_must (refine wpList_store_row rfl 45 _ _ rfl w.heap.size _ rfl rfl 45 _ R3.out (sizeRp' _ _ _ _ _ _ _ _) rfl (oneRp _ _ _ _ _ _ _ _ _ _ _ _ _ _) ?_))
  refine bodyPost_ret (results_cell_row rfl _ _ w.heap.size 45 _ (0, 0) _ rfl (setRow_heap _ _ _ _ _ _ R3.out) Tryz.underlying45 rfl sizeRp) rfl ?_
  exact OUT.out _ rfl
set_option maxRecDepth 100000 in
set_option maxHeartbeats 8000000 in
theorem takePart17_root {w : World} {b : Nat} {s : ByteArray} {st : RS} (h : XRd w b s st) (hK : st.val 0 (rdByte st.rest) = 0) (hF : (st.step (rdByte st.rest)).val 0 (rdByte (st.step (rdByte st.rest)).rest) = 1) :
    Calls Tryz.prog 91 #[.pointer (some ⟨b, 0, none⟩)] w (PPo w b s (dFr .root (Part.of 0, (st.step (rdByte st.rest)).step (rdByte (st.step (rdByte st.rest)).rest)))) := by
  have hbl := h.lt
  have bA := (Below.refl w.heap.size w).alloc (Nat.le_refl _) (.cells #[.int .i64 0, .int .i64 0, .int .i64 0, .int .i64 0, .string ⟨#[]⟩, .slice none 0 0, .slice none 0 0, .slice none 0 0] 45)
  have rA := heap_alloc_new w (.cells #[.int .i64 0, .int .i64 0, .int .i64 0, .int .i64 0, .string ⟨#[]⟩, .slice none 0 0, .slice none 0 0, .slice none 0 0] 45)
  have zA := size_alloc w (.cells #[.int .i64 0, .int .i64 0, .int .i64 0, .int .i64 0, .string ⟨#[]⟩, .slice none 0 0, .slice none 0 0, .slice none 0 0] 45)
  have i1 := xByte_any b s st _ (h.below bA)
  have BA := hid bA
  have RA := hid rA
  obtain ⟨st1, hst⟩ : ∃ st1, Hid (st.step (rdByte st.rest) = st1) := ⟨_, rfl⟩
  rw [hK, hst.out, show ((0 : Nat) : Int) = 0 from rfl] at i1
  rw [hst.out] at hF ⊢
  obtain ⟨st2, hst2⟩ : ∃ st2, Hid (st1.step (rdByte st1.rest) = st2) := ⟨_, rfl⟩
  rw [hst2.out]
  obtain ⟨F, hFF⟩ : ∃ F, Hid (st1.val 0 (rdByte st1.rest) = F) := ⟨_, rfl⟩
  rw [hFF.out] at hF
  obtain ⟨p', hp'⟩ : ∃ p', Hid (dFr .root (Part.of 0, st2) = p') := ⟨_, rfl⟩
  rw [hp'.out]
  have HN0 : Hid (p'.1.n = 0) := by rw [← hp'.out]; rfl
  have y1 : ((F : Int) == 1) = true := by simp; omega
  clear h bA rA hK hF
  go_enter Tryz.func91, Tryz.ntmps91
  go_wp2_with (go_at_call 56; fail)
  go_at_call 56
  refine i1.mono ?_
  rintro e w1 ⟨rfl, g1, g2⟩
  have k1 : Keep (fun k => k = b) w w1 := (Keep.ofBelow BA.out : Keep (fun k => k = b) w _).trans (T := fun k => k = b) (Keep.ofBut g2 rfl) (fun _ _ e => e)
  have r1 := ((Keep.ofBut g2 rfl : Keep (fun k => k = b) _ w1).block w.heap.size (by omega) (by omega)).trans RA.out
  have z1 : w.heap.size < w1.heap.size := by have := (Keep.ofBut g2 rfl : Keep (fun k => k = b) _ w1).size; omega
  have b2 := (Below.refl w1.heap.size w1).alloc (Nat.le_refl _) (.cells #[.int .i64 0, .int .i64 0, .int .i64 0, .int .i64 0, .string ⟨#[]⟩, .slice none 0 0, .slice none 0 0, .slice none 0 0] 45)
  have r2 := heap_alloc_new w1 (.cells #[.int .i64 0, .int .i64 0, .int .i64 0, .int .i64 0, .string ⟨#[]⟩, .slice none 0 0, .slice none 0 0, .slice none 0 0] 45)
  have zz2 := size_alloc w1 (.cells #[.int .i64 0, .int .i64 0, .int .i64 0, .int .i64 0, .string ⟨#[]⟩, .slice none 0 0, .slice none 0 0, .slice none 0 0] 45)
  have D0 : Hid (Dq (w1.alloc (.cells #[.int .i64 0, .int .i64 0, .int .i64 0, .int .i64 0, .string ⟨#[]⟩, .slice none 0 0, .slice none 0 0, .slice none 0 0] 45)) (w1.heap.size + 1) b w1.heap.size s (Part.of 0, st1) (.slice none 0 0) (.slice none 0 0) (.slice none 0 0)) := ⟨g1.below b2, r2, by omega, by omega, by omega, nilT _, Nw.nil _ _, nilT _, Nw.nil _ _⟩
  have R2 := hid ((b2.block _ z1).trans r1)
  have K2 : Hid (Keep (fun k => k = b) w (w1.alloc (.cells #[.int .i64 0, .int .i64 0, .int .i64 0, .int .i64 0, .string ⟨#[]⟩, .slice none 0 0, .slice none 0 0, .slice none 0 0] 45))) := k1.trans (T := fun _ => False) (Keep.ofBelow b2) (fun _ _ e => e.elim)
  obtain ⟨c0, c1, c2, c3, c4, c5, c6, c7⟩ := rp_cells (x := Part.of (0)) (P := ⟨#[]⟩) r2
  simp only [Part.of] at c0 c1 c2 c3
  have HZ2 := hid zz2
  clear g1 g2 k1 r1 b2 r2 i1 zz2
  go_upto_region 2 with fail
  obtain ⟨W2, hW2⟩ : ∃ W2, Hid (w1.alloc (.cells #[.int .i64 0, .int .i64 0, .int .i64 0, .int .i64 0, .string ⟨#[]⟩, .slice none 0 0, .slice none 0 0, .slice none 0 0] 45) = W2) := ⟨_, rfl⟩
  rw [hW2.out] at D0 R2 K2 HZ2 c0 c1 c2 c3 c4 c5 c6 c7 ⊢
  generalize w1.heap.size = d at *
  have i2 := xByte_any b s st1 W2 D0.out.rd
  rw [hst2.out, hFF.out] at i2
  go_wp2_with (go_at_call 56; fail)
  go_at_call 56
  refine i2.mono ?_
  rintro e w3 ⟨rfl, g1, g2⟩
  have D3 := hid (D0.out.but g2 g1)
  have K3 : Hid (Keep (fun k => k = b ∨ k = d) W2 w3) := (Keep.ofBut g2 rfl : Keep (fun k => k = b) W2 w3).mono fun _ _ e => .inl e
  have i3 := xRaw_any b s st2 32 w3 (by omega) D3.out.rd
  clear g1 g2 i2 c0 c1 c2 c3 c4 c5 c6 c7
  go_wp2_with (go_at_call 89; fail)
  go_at_call 89
  refine i3.mono ?_
  rintro e w4 ⟨rfl, g1, g2⟩
  obtain ⟨PV, hPV⟩ := pstr (st2.val [] (rdRaw st2.rest 32))
  have R4 := D3.out.row2 g2
  have e0 : w4.cell? ⟨d, 4, none⟩ = some (.string ⟨#[]⟩) := by rw [cell_of_row _ _ _ _ _ _ R4]; rfl
  have f0 : w4.frozen? ⟨d, 4, none⟩ = false := frozen_of_row _ _ _ _ _ R4
  have HD : Hid (DPq W2 (d + 1) b d s p' (.slice none 0 0) (w4.setCell ⟨d, 4, none⟩ (.string PV))) := by
    rw [← hp'.out, ← hPV.out.1]
    exact DPq.step K3.out (D3.out.put (p' := dFr .root (Part.of 0, st2)) g2 g1 4 _ rfl (D3.out.o1 g2) (D3.out.o2 g2))
  rw [hPV.out.1]
  clear g1 g2 R4 i3
  go_upto_region 7 with fail
  obtain ⟨W5, hW5⟩ : ∃ W5, Hid ((w4.setCell ⟨d, 4, none⟩ (.string PV)) = W5) := ⟨_, rfl⟩
  rw [hW5.out] at HD ⊢
  clear D3 K3 e0 f0
  obtain ⟨vh, ve, D1, D2⟩ := HD.out
  obtain ⟨PS, hPS⟩ := pstr (p').1.root
  have rw_ := D1.row
  rw [hPS.out.1] at rw_
  obtain ⟨a1, n1, e1, _⟩ := id D1.s1
  obtain ⟨a2, n2, e2, _⟩ := id D1.s2
  subst e1 e2
  obtain ⟨d0, d1, d2, d3, d4, d5, d6, d7⟩ := rp_cells rw_
  have R3 := hid ((D2.block w.heap.size (by have := HZ2.out; omega) (by omega)).trans R2.out)
  obtain ⟨_, _, OUT⟩ : ∃ (_ : True) (_ : True), Hid (∀ cs, #[Value.int .i64 (p').1.status, .int .i64 (p').1.size, .int .i64 (p').1.a, .int .i64 (p').1.b, .string PS, .slice a1 (p').1.hs.length n1, .slice a2 (p').1.ent.length n2, .slice none 0 0] = cs → PPo w b s (p') (.returned (.agg cs)) (W5.setRow w.heap.size cs)) := ⟨trivial, trivial, fun cs hcs => by
    have k1 : Keep (fun k => k = w.heap.size) W5 (W5.setRow w.heap.size cs) := ⟨rfl, rfl, rfl, by rw [setRow_size]; exact Nat.le_refl _, fun k _ hk => setRow_other W5 _ k _ hk⟩
    have hS : ∀ k, d + 1 ≤ k → k < W5.heap.size → ¬ k = w.heap.size := fun k k1 _ e => by omega
    have hle : W5.heap.size ≤ (W5.setRow w.heap.size cs).heap.size := k1.size
    refine ⟨_, _, by (rw [rpV, hPS.out.1, ← hcs]; try rfl), D1.n1.slc D1.s1 k1 hS, D1.n1.mono (by omega) hle, D1.n2.slc D1.s2 k1 hS, D1.n2.mono (by omega) hle, HN0.out, D1.rd.keep k1 (by omega), ?_⟩
    refine (K2.out.trans D2 fun j hj e => ?_).trans k1 fun j hj e => ?_
    · rcases e with e | e
      · exact e
      · omega
    · omega⟩
  clear D1 D2 rw_ HD
  go_wp2_with ((with_reducible show wpList _ _ _ (Oper.mk _ (Op.store 45 _ _) _ _ _ _ :: _) _ _); go_must (refine wpList_store_row rfl 45 _ _ rfl w.heap.size _ rfl rfl 45 _ R3.out (sizeRp' _ _ _ _ _ _ _ _) rfl (oneRp _ _ _ _ _ _ _ _ _ _ _ _ _ _) ?_))
  refine bodyPost_ret (results_cell_row rfl _ _ w.heap.size 45 _ (0, 0) _ rfl (setRow_heap _ _ _ _ _ _ R3.out) Tryz.underlying45 rfl sizeRp) rfl ?_
  exact OUT.out _ rfl
set_option maxRecDepth 100000 in
set_option maxHeartbeats 8000000 in
theorem takePart17_hashes {w : World} {b : Nat} {s : ByteArray} {st : RS} (h : XRd w b s st) (hK : st.val 0 (rdByte st.rest) = 0) (hF : (st.step (rdByte st.rest)).val 0 (rdByte (st.step (rdByte st.rest)).rest) ≠ 1) :
    Calls Tryz.prog 91 #[.pointer (some ⟨b, 0, none⟩)] w (PPo w b s (dFr .hashes (Part.of 0, (st.step (rdByte st.rest)).step (rdByte (st.step (rdByte st.rest)).rest)))) := by
  have hbl := h.lt
  have bA := (Below.refl w.heap.size w).alloc (Nat.le_refl _) (.cells #[.int .i64 0, .int .i64 0, .int .i64 0, .int .i64 0, .string ⟨#[]⟩, .slice none 0 0, .slice none 0 0, .slice none 0 0] 45)
  have rA := heap_alloc_new w (.cells #[.int .i64 0, .int .i64 0, .int .i64 0, .int .i64 0, .string ⟨#[]⟩, .slice none 0 0, .slice none 0 0, .slice none 0 0] 45)
  have zA := size_alloc w (.cells #[.int .i64 0, .int .i64 0, .int .i64 0, .int .i64 0, .string ⟨#[]⟩, .slice none 0 0, .slice none 0 0, .slice none 0 0] 45)
  have i1 := xByte_any b s st _ (h.below bA)
  have BA := hid bA
  have RA := hid rA
  obtain ⟨st1, hst⟩ : ∃ st1, Hid (st.step (rdByte st.rest) = st1) := ⟨_, rfl⟩
  rw [hK, hst.out, show ((0 : Nat) : Int) = 0 from rfl] at i1
  rw [hst.out] at hF ⊢
  obtain ⟨st2, hst2⟩ : ∃ st2, Hid (st1.step (rdByte st1.rest) = st2) := ⟨_, rfl⟩
  rw [hst2.out]
  obtain ⟨F, hFF⟩ : ∃ F, Hid (st1.val 0 (rdByte st1.rest) = F) := ⟨_, rfl⟩
  rw [hFF.out] at hF
  obtain ⟨p', hp'⟩ : ∃ p', Hid (dFr .hashes (Part.of 0, st2) = p') := ⟨_, rfl⟩
  rw [hp'.out]
  have HN0 : Hid (p'.1.n = 0) := by rw [← hp'.out]; rfl
  have y1 : ((F : Int) == 1) = false := by simp; omega
  clear h bA rA hK hF
  go_enter Tryz.func91, Tryz.ntmps91
  go_wp2_with (go_at_call 56; fail)
  go_at_call 56
  refine i1.mono ?_
  rintro e w1 ⟨rfl, g1, g2⟩
  have k1 : Keep (fun k => k = b) w w1 := (Keep.ofBelow BA.out : Keep (fun k => k = b) w _).trans (T := fun k => k = b) (Keep.ofBut g2 rfl) (fun _ _ e => e)
  have r1 := ((Keep.ofBut g2 rfl : Keep (fun k => k = b) _ w1).block w.heap.size (by omega) (by omega)).trans RA.out
  have z1 : w.heap.size < w1.heap.size := by have := (Keep.ofBut g2 rfl : Keep (fun k => k = b) _ w1).size; omega
  have b2 := (Below.refl w1.heap.size w1).alloc (Nat.le_refl _) (.cells #[.int .i64 0, .int .i64 0, .int .i64 0, .int .i64 0, .string ⟨#[]⟩, .slice none 0 0, .slice none 0 0, .slice none 0 0] 45)
  have r2 := heap_alloc_new w1 (.cells #[.int .i64 0, .int .i64 0, .int .i64 0, .int .i64 0, .string ⟨#[]⟩, .slice none 0 0, .slice none 0 0, .slice none 0 0] 45)
  have zz2 := size_alloc w1 (.cells #[.int .i64 0, .int .i64 0, .int .i64 0, .int .i64 0, .string ⟨#[]⟩, .slice none 0 0, .slice none 0 0, .slice none 0 0] 45)
  have D0 : Hid (Dq (w1.alloc (.cells #[.int .i64 0, .int .i64 0, .int .i64 0, .int .i64 0, .string ⟨#[]⟩, .slice none 0 0, .slice none 0 0, .slice none 0 0] 45)) (w1.heap.size + 1) b w1.heap.size s (Part.of 0, st1) (.slice none 0 0) (.slice none 0 0) (.slice none 0 0)) := ⟨g1.below b2, r2, by omega, by omega, by omega, nilT _, Nw.nil _ _, nilT _, Nw.nil _ _⟩
  have R2 := hid ((b2.block _ z1).trans r1)
  have K2 : Hid (Keep (fun k => k = b) w (w1.alloc (.cells #[.int .i64 0, .int .i64 0, .int .i64 0, .int .i64 0, .string ⟨#[]⟩, .slice none 0 0, .slice none 0 0, .slice none 0 0] 45))) := k1.trans (T := fun _ => False) (Keep.ofBelow b2) (fun _ _ e => e.elim)
  obtain ⟨c0, c1, c2, c3, c4, c5, c6, c7⟩ := rp_cells (x := Part.of (0)) (P := ⟨#[]⟩) r2
  simp only [Part.of] at c0 c1 c2 c3
  have HZ2 := hid zz2
  clear g1 g2 k1 r1 b2 r2 i1 zz2
  go_upto_region 2 with fail
  obtain ⟨W2, hW2⟩ : ∃ W2, Hid (w1.alloc (.cells #[.int .i64 0, .int .i64 0, .int .i64 0, .int .i64 0, .string ⟨#[]⟩, .slice none 0 0, .slice none 0 0, .slice none 0 0] 45) = W2) := ⟨_, rfl⟩
  rw [hW2.out] at D0 R2 K2 HZ2 c0 c1 c2 c3 c4 c5 c6 c7 ⊢
  generalize w1.heap.size = d at *
  have i2 := xByte_any b s st1 W2 D0.out.rd
  rw [hst2.out, hFF.out] at i2
  go_wp2_with (go_at_call 56; fail)
  go_at_call 56
  refine i2.mono ?_
  rintro e w3 ⟨rfl, g1, g2⟩
  have D3 := hid (D0.out.but g2 g1)
  have K3 : Hid (Keep (fun k => k = b ∨ k = d) W2 w3) := (Keep.ofBut g2 rfl : Keep (fun k => k = b) W2 w3).mono fun _ _ e => .inl e
  have i3 := xHashes_any b s st2 32768 w3 D3.out.rd
  clear g1 g2 i2 c0 c1 c2 c3 c4 c5 c6 c7
  go_wp2_with (go_at_call 90; fail)
  go_at_call 90
  refine i3.mono ?_
  rintro e w4 ⟨v, rfl, g0, g1, g2⟩
  have R4 := D3.out.row2 g2
  have e0 : w4.cell? ⟨d, 5, none⟩ = some (.slice none 0 0) := by rw [cell_of_row _ _ _ _ _ _ R4]; rfl
  have f0 : w4.frozen? ⟨d, 5, none⟩ = false := frozen_of_row _ _ _ _ _ R4
  have hs := own_slc g0
  have hn := (nw_of g0).mono (lo' := d + 1) (hi' := w4.heap.size) (by have := K3.out.size; have := HZ2.out; omega) (Nat.le_refl _)
  obtain ⟨v1, v2, hv, _⟩ := id hs
  subst hv
  obtain ⟨NL, hNL⟩ : ∃ n, Hid ((st2.val [] (rdHashes st2.rest 32768)).length = n) := ⟨_, rfl⟩
  have HD : Hid (DPq W2 (d + 1) b d s p' (.slice none 0 0) (w4.setCell ⟨d, 5, none⟩ (.slice v1 (st2.val [] (rdHashes st2.rest 32768)).length v2))) := by
    rw [← hp'.out]
    exact DPq.step K3.out (D3.out.put (p' := dFr .hashes (Part.of 0, st2)) g2 g1 5 _ rfl ⟨hs, hn⟩ (D3.out.o2 g2))
  rw [hNL.out] at HD ⊢
  clear g0 g1 g2 R4 i3 hs hn
  go_upto_region 7 with fail
  obtain ⟨W5, hW5⟩ : ∃ W5, Hid ((w4.setCell ⟨d, 5, none⟩ (.slice v1 NL v2)) = W5) := ⟨_, rfl⟩
  rw [hW5.out] at HD ⊢
  clear D3 K3 e0 f0
  obtain ⟨vh, ve, D1, D2⟩ := HD.out
  obtain ⟨PS, hPS⟩ := pstr (p').1.root
  have rw_ := D1.row
  rw [hPS.out.1] at rw_
  obtain ⟨a1, n1, e1, _⟩ := id D1.s1
  obtain ⟨a2, n2, e2, _⟩ := id D1.s2
  subst e1 e2
  obtain ⟨d0, d1, d2, d3, d4, d5, d6, d7⟩ := rp_cells rw_
  have R3 := hid ((D2.block w.heap.size (by have := HZ2.out; omega) (by omega)).trans R2.out)
  obtain ⟨_, _, OUT⟩ : ∃ (_ : True) (_ : True), Hid (∀ cs, #[Value.int .i64 (p').1.status, .int .i64 (p').1.size, .int .i64 (p').1.a, .int .i64 (p').1.b, .string PS, .slice a1 (p').1.hs.length n1, .slice a2 (p').1.ent.length n2, .slice none 0 0] = cs → PPo w b s (p') (.returned (.agg cs)) (W5.setRow w.heap.size cs)) := ⟨trivial, trivial, fun cs hcs => by
    have k1 : Keep (fun k => k = w.heap.size) W5 (W5.setRow w.heap.size cs) := ⟨rfl, rfl, rfl, by rw [setRow_size]; exact Nat.le_refl _, fun k _ hk => setRow_other W5 _ k _ hk⟩
    have hS : ∀ k, d + 1 ≤ k → k < W5.heap.size → ¬ k = w.heap.size := fun k k1 _ e => by omega
    have hle : W5.heap.size ≤ (W5.setRow w.heap.size cs).heap.size := k1.size
    refine ⟨_, _, by (rw [rpV, hPS.out.1, ← hcs]; try rfl), D1.n1.slc D1.s1 k1 hS, D1.n1.mono (by omega) hle, D1.n2.slc D1.s2 k1 hS, D1.n2.mono (by omega) hle, HN0.out, D1.rd.keep k1 (by omega), ?_⟩
    refine (K2.out.trans D2 fun j hj e => ?_).trans k1 fun j hj e => ?_
    · rcases e with e | e
      · exact e
      · omega
    · omega⟩
  clear D1 D2 rw_ HD
  go_wp2_with ((with_reducible show wpList _ _ _ (Oper.mk _ (Op.store 45 _ _) _ _ _ _ :: _) _ _); go_must (refine wpList_store_row rfl 45 _ _ rfl w.heap.size _ rfl rfl 45 _ R3.out (sizeRp' _ _ _ _ _ _ _ _) rfl (oneRp _ _ _ _ _ _ _ _ _ _ _ _ _ _) ?_))
  refine bodyPost_ret (results_cell_row rfl _ _ w.heap.size 45 _ (0, 0) _ rfl (setRow_heap _ _ _ _ _ _ R3.out) Tryz.underlying45 rfl sizeRp) rfl ?_
  exact OUT.out _ rfl
theorem takePart17_any {w : World} {b : Nat} {s : ByteArray} {st : RS} (h : XRd w b s st) : Calls Tryz.prog 91 #[.pointer (some ⟨b, 0, none⟩)] w (PPo w b s (dPrt st)) := by
  rw [dPrt]
  split
  · rename_i hk
    split
    · rename_i hf
      exact takePart17_root h hk hf
    · rename_i hf
      exact takePart17_hashes h hk hf
  · rename_i hk
    exact takePart17_not h _ rfl hk
end Msg
end Go.Proofs.YtmhgdcfmfcjagaaGreatDoor
