import Derived.Test.YtfddkmkibfmmgaaDoorCTL20
import Derived.Deep.CutRange
namespace Go.Proofs.YtfddkmkibfmmgaaDoor
open Go.RowKit
theorem own_g {g n c k : Nat} (h : (Value.slice (some ⟨g, 0, none⟩) n c).ownBlock = some k) : g = k := by cases h; rfl
/-- a tree that is cloned: the places sk are done -/
structure Cl (w0 w : World) (q b h s : Nat) (es : List ((Int × Int) × Value)) (R : Int × Int → List (List UInt8)) (B r q2 b2 : Nat) (es2 : List ((Int × Int) × Value)) (sk : List (Int × Int)) : Prop where
  src : Tr w q b h s es R
  it : Itr w b r es sk
  row : w.heap[q2]? = some (.cells #[.int .i64 (h : Int), .int .i64 (s : Int), .map (some b2)] 73 (0, 0))
  mp : Mp w b2 es2
  ks : ∀ p, has es2 p ↔ p ∈ sk
  el : ∀ p v, (p, v) ∈ es2 → Own w B v (svs (R p)) ∧ ∀ k, v.ownBlock = some k → k ≠ q2 ∧ k ≠ b2 ∧ k ≠ r
  apart : ∀ p v p' v' k, (p, v) ∈ es2 → (p', v') ∈ es2 → p ≠ p' → v.ownBlock = some k → v'.ownBlock ≠ some k
  ne : q2 ≠ b2 ∧ r ≠ q2 ∧ r ≠ b2
  lo : B ≤ q2 ∧ B ≤ b2 ∧ B ≤ r
  bB : ∀ k, Fb q b es k → k < B
  bel : Below B w0 w
  szB : B ≤ w.heap.size
theorem Cl.step {w0 w w1 w3 w4 : World} {q b h s : Nat} {es : List ((Int × Int) × Value)} {R : Int × Int → List (List UInt8)} {B r q2 b2 g : Nat} {es2 : List ((Int × Int) × Value)} {sk : List (Int × Int)} (C : Cl w0 w q b h s es R B r q2 b2 es2 sk) {p : Int × Int} (hp : p ∉ sk)
    (bt : But r w w1) (sz1 : w1.heap.size = w.heap.size) (it1 : Itr w1 b r es (sk ++ [p])) (b3 : Below w1.heap.size w1 w3) (hR : Row w3 g (R p)) (hg : w1.heap.size ≤ g) (hlen : (R p).length ≤ 2000000)
    (mp4 : Mp w4 b2 (es2 ++ [(p, .slice (some ⟨g, 0, none⟩) (R p).length (R p).length)])) (bt4 : But b2 w3 w4) (sz4 : w4.heap.size = w3.heap.size) :
    Cl w0 w4 q b h s es R B r q2 b2 (es2 ++ [(p, .slice (some ⟨g, 0, none⟩) (R p).length (R p).length)]) (sk ++ [p]) ∧ w4.rangeLeft b r = w1.rangeLeft b r := by
  obtain ⟨n1, n2, n3⟩ := C.ne
  obtain ⟨l1, l2, l3⟩ := C.lo
  have hs3 := b3.size
  have hq2 : q2 < w.heap.size := lt_of_heap C.row
  have hb2 := C.mp.lt
  obtain ⟨hbl, hrl, hrb⟩ := C.it.lt
  have hgl := hR.lt
  have blk : ∀ k, k < w.heap.size → k ≠ r → k ≠ b2 → w4.heap[k]? = w.heap[k]? := fun k hk h1 h2 =>
    (bt4.block k (by omega) h2).trans ((b3.block k (by omega)).trans (bt.block k hk h1))
  have hbF : b < B := C.bB b (.inr (.inl rfl))
  have hbb : w4.heap[b]? = w1.heap[b]? := (bt4.block b (by omega) (by omega)).trans (b3.block b (by omega))
  have hrr : w4.heap[r]? = w1.heap[r]? := (bt4.block r (by omega) n3).trans (b3.block r (by omega))
  obtain ⟨it4, rl⟩ := it1.heap hbb hrr
  have hnew : Own w4 B (.slice (some ⟨g, 0, none⟩) (R p).length (R p).length) (svs (R p)) := by
    have o := (hR.own (by omega)).from (B := B) (fun k hk => by have := own_g hk; have := C.szB; omega)
    exact o.but bt4 (fun e => by have := own_g e; omega)
  refine ⟨⟨?_, it4, (blk q2 hq2 (Ne.symm n2) n1).trans C.row, mp4, fun p' => ?_, ?_, ?_, C.ne, C.lo, C.bB, ?_, by have := C.szB; omega⟩, rl⟩
  · refine C.src.keep (S := fun k => B ≤ k) ⟨?_, ?_, ?_, ?_, fun k hk hS => blk k hk (by omega) (by omega)⟩ (fun k hk e => by have := C.bB k hk; omega)
    · exact bt4.os.trans (b3.os.trans bt.os)
    · exact bt4.tape.trans (b3.tape.trans bt.tape)
    · exact bt4.output.trans (b3.output.trans bt.output)
    · omega
  · rw [List.mem_append, List.mem_singleton, ← C.ks p']
    constructor
    · rintro ⟨v, hv⟩
      rcases List.mem_append.1 hv with hv | hv
      · exact .inl ⟨v, hv⟩
      · rw [List.mem_singleton] at hv; exact .inr (congrArg Prod.fst hv)
    · rintro (⟨v, hv⟩ | rfl)
      · exact ⟨v, List.mem_append.2 (.inl hv)⟩
      · exact ⟨_, List.mem_append.2 (.inr (List.mem_singleton.2 rfl))⟩
  · intro p' v hv
    rcases List.mem_append.1 hv with hv | hv
    · obtain ⟨e1, e2⟩ := C.el p' v hv
      exact ⟨e1.kept (by omega) fun k hk => blk k (e1.ltS k hk) (e2 k hk).2.2 (e2 k hk).2.1, e2⟩
    · rw [List.mem_singleton] at hv
      obtain ⟨rfl, rfl⟩ := Prod.mk.injEq .. ▸ hv
      exact ⟨hnew, fun k hk => by have := own_g hk; omega⟩
  · have other : ∀ p' v k, (p', v) ∈ es2 → v.ownBlock = some k → g ≠ k := fun p' v k hv hk => by
      have := (C.el p' v hv).1.ltS k hk
      omega
    intro p1 v1 p2 v2 k h1 h2 hne hk
    rcases List.mem_append.1 h1 with m1 | m1
    · rcases List.mem_append.1 h2 with m2 | m2
      · exact C.apart p1 v1 p2 v2 k m1 m2 hne hk
      · rw [List.mem_singleton] at m2
        have e2 := congrArg Prod.snd m2
        simp only at e2
        rw [e2]
        exact fun e => other p1 v1 k m1 hk (own_g e)
    · rw [List.mem_singleton] at m1
      have e1 := congrArg Prod.snd m1
      simp only at e1
      rw [e1] at hk
      have hk := own_g hk
      rcases List.mem_append.1 h2 with m2 | m2
      · exact fun e => other p2 v2 k m2 e hk
      · rw [List.mem_singleton] at m2
        exact absurd ((congrArg Prod.fst m1).trans (congrArg Prod.fst m2).symm) hne
  · refine C.bel.trans ⟨bt4.os.trans (b3.os.trans bt.os), bt4.tape.trans (b3.tape.trans bt.tape), bt4.output.trans (b3.output.trans bt.output), by omega, fun k hk => ?_⟩
    have := C.szB
    exact blk k (by omega) (by omega) (by omega)
/-- all are done -/
theorem Cl.done {w0 w : World} {q b h s : Nat} {es : List ((Int × Int) × Value)} {R : Int × Int → List (List UInt8)} {B r q2 b2 : Nat} {es2 : List ((Int × Int) × Value)} {sk : List (Int × Int)} (C : Cl w0 w q b h s es R B r q2 b2 es2 sk) (hall : ∀ x ∈ es, x.1 ∈ sk) :
    Tr w q2 b2 h s es2 R ∧ ∀ k, Fb q2 b2 es2 k → B ≤ k := by
  refine ⟨⟨C.row, C.mp, C.ne.1, fun p v hv => ⟨(C.el p v hv).1.mono (Nat.zero_le _), fun k hk => ⟨((C.el p v hv).2 k hk).1, ((C.el p v hv).2 k hk).2.1⟩⟩, fun p hp => ?_, C.apart⟩, fun k hk => ?_⟩
  · exact C.src.no p fun ⟨v, hv⟩ => hp ((C.ks p).2 (hall _ hv))
  · rcases hk with rfl | rfl | ⟨p, v, hv, hk⟩
    · exact C.lo.1
    · exact C.lo.2.1
    · exact (C.el p v hv).1.ge k hk
end Go.Proofs.YtfddkmkibfmmgaaDoor

namespace Go.Proofs.YtfddkmkibfmmgaaDoor
open Go.RowKit
theorem S32.below {q g : Nat} {x y z : Value} {w w' : World} {B : Nat} (h : S32 q g x y z w) (hb : Below B w w') (h1 : q < B) (h2 : g < B) : S32 q g x y z w' := h.heap (hb.block q h1) (hb.block g h2)
def S30 (q : Nat) (x y z : Value) (w : World) : Prop := w.cell? ⟨q, 0, none⟩ = some x ∧ w.cell? ⟨q, 1, none⟩ = some y ∧ w.cell? ⟨q, 2, none⟩ = some z
theorem S30.below {q : Nat} {x y z : Value} {w w' : World} {B : Nat} (h : S30 q x y z w) (hb : Below B w w') (h1 : q < B) : S30 q x y z w' := ⟨(hb.cell (p := ⟨q, 0, none⟩) h1).trans h.1, (hb.cell (p := ⟨q, 1, none⟩) h1).trans h.2.1, (hb.cell (p := ⟨q, 2, none⟩) h1).trans h.2.2⟩
/-- how many entries a map has, in whatever world it lies -/
theorem Mp.lenN {w : World} {b : Nat} {es : List ((Int × Int) × Value)} (h : Mp w b es) : ∃ n : Nat, ∀ w' : World, w'.heap[b]? = w.heap[b]? → (Builtin.len_ #[71] 3 #[.map (some b)]).run Tryd.prog w' = .ok (.int .i64 (n : Int)) w' := by
  obtain ⟨arr, clock, hb, _⟩ := h
  exact ⟨arr.size, fun w' hw => by simp [Builtin.len_, run_underlying undMp, MapKept.run_getObj_map (hw.trans hb), goInt, Result.andThen]⟩
def SL (q : Nat) (x y z : Value) (b nl : Nat) (w : World) : Prop := w.cell? ⟨q, 0, none⟩ = some x ∧ w.cell? ⟨q, 1, none⟩ = some y ∧ w.cell? ⟨q, 2, none⟩ = some z ∧ (Builtin.len_ #[71] 3 #[.map (some b)]).run Tryd.prog w = .ok (.int .i64 (nl : Int)) w
set_option maxRecDepth 100000 in
set_option maxHeartbeats 4000000 in
theorem tClone_any {w : World} {q h : Nat} {L : List (List UInt8)} {F : Nat → Prop} (t : TrL w q h L F) (hT : 4 ≤ w.heap.size) :
    Calls Tryd.prog 15 #[.pointer (some ⟨q, 0, none⟩)] w fun r w' => ∃ (q2 : Nat) (F2 : Nat → Prop), r = .returned (.pointer (some ⟨q2, 0, none⟩)) ∧ TrL w' q2 h L F2 ∧ (∀ k, F2 k → w.heap.size ≤ k) ∧ Below w.heap.size w w' := by
  obtain ⟨⟨b, es, t1, rfl⟩, hLs, g1, g8, glow, n20⟩ := t
  obtain ⟨n, hn⟩ : ∃ n, Hid (L.length = n) := ⟨_, rfl⟩
  rw [hn.out] at t1 n20
  obtain ⟨R, hR⟩ : ∃ R, Hid (Til.rf L h (Til.cn n) = R) := ⟨_, rfl⟩
  rw [hR.out] at t1
  have hRlen : Hid (∀ p, (R p).length ≤ 2000000) := fun p => by rw [← hR.out]; exact Til.rf_len L h g8 _ p
  have hqF := t1.lt q (.inl rfl)
  have S0 : S30 q (.int .i64 (h : Int)) (.int .i64 (n : Int)) (.map (some b)) w := ⟨t1.c0, t1.c1, t1.c2⟩
  obtain ⟨nl, hln⟩ := t1.mp.lenN
  have hlen := hln w rfl
  have hbF := t1.lt b (.inr (.inl rfl))
  have bm := (Below.refl w.heap.size w).alloc (Nat.le_refl _) (.map #[] 0)
  have zm := size_alloc w (.map #[] 0)
  have b2 := (Below.refl (w.heap.size + 1) (w.alloc (.map #[] 0))).alloc (by omega) (.cells #[Value.int .i64 (h : Int), .int .i64 (n : Int), .map (some w.heap.size)] 73)
  have r2 := heap_alloc_at (w.alloc (.map #[] 0)) (.cells #[Value.int .i64 (h : Int), .int .i64 (n : Int), .map (some w.heap.size)] 73) (w.heap.size + 1) zm
  have m2 : Mp ((w.alloc (.map #[] 0)).alloc (.cells #[Value.int .i64 (h : Int), .int .i64 (n : Int), .map (some w.heap.size)] 73)) w.heap.size [] := (Mp.new w).heap (b2.block _ (by omega))
  have z2 := size_alloc (w.alloc (.map #[] 0)) (.cells #[Value.int .i64 (h : Int), .int .i64 (n : Int), .map (some w.heap.size)] 73)
  have bw2 := bm.trans (b2.mono (show w.heap.size ≤ w.heap.size + 1 by omega))
  have SL0 : SL q (.int .i64 (h : Int)) (.int .i64 (n : Int)) (.map (some b)) b nl w := ⟨S0.1, S0.2.1, S0.2.2, hlen⟩
  have SL1 : SL q (.int .i64 (h : Int)) (.int .i64 (n : Int)) (.map (some b)) b nl (w.alloc (.map #[] 0)) := ⟨(S0.below bm hqF).1, (S0.below bm hqF).2.1, (S0.below bm hqF).2.2, hln _ (bm.block b hbF)⟩
  have SL2 : SL q (.int .i64 (h : Int)) (.int .i64 (n : Int)) (.map (some b)) b nl ((w.alloc (.map #[] 0)).alloc (.cells #[Value.int .i64 (h : Int), .int .i64 (n : Int), .map (some w.heap.size)] 73)) := ⟨(S0.below bw2 hqF).1, (S0.below bw2 hqF).2.1, (S0.below bw2 hqF).2.2, hln _ (bw2.block b hbF)⟩
  have SD0 : SL q (.int .i64 (h : Int)) (.int .i64 (n : Int)) (.map (some b)) b nl w.drew := ⟨SL0.1, SL0.2.1, SL0.2.2.1, hln _ rfl⟩
  have SD1 : SL q (.int .i64 (h : Int)) (.int .i64 (n : Int)) (.map (some b)) b nl (w.alloc (.map #[] 0)).drew := ⟨SL1.1, SL1.2.1, SL1.2.2.1, hln _ (bm.block b hbF)⟩
  have SD2 : SL q (.int .i64 (h : Int)) (.int .i64 (n : Int)) (.map (some b)) b nl ((w.alloc (.map #[] 0)).alloc (.cells #[Value.int .i64 (h : Int), .int .i64 (n : Int), .map (some w.heap.size)] 73)).drew := ⟨SL2.1, SL2.2.1, SL2.2.2.1, hln _ (bw2.block b hbF)⟩
  have bd2 := bw2.drew
  obtain ⟨w2, hw2⟩ : ∃ w2, ((w.alloc (.map #[] 0)).alloc (.cells #[Value.int .i64 (h : Int), .int .i64 (n : Int), .map (some w.heap.size)] 73)).drew = w2 := ⟨_, rfl⟩
  have r2' : w2.heap[w.heap.size + 1]? = some (.cells #[Value.int .i64 (h : Int), .int .i64 (n : Int), .map (some w.heap.size)] 73 (0, 0)) := by rw [← hw2]; exact r2
  have m2' : Mp w2 w.heap.size [] := by rw [← hw2]; exact m2.heap rfl
  have z2' : w2.heap.size = w.heap.size + 2 := by rw [← hw2]; show _ = _; rw [zm] at z2; exact z2
  rw [hw2] at bd2
  have t2 := t1.below bd2
  obtain ⟨w3, hrg, it3, bw3, z3⟩ := Itr.start t2.mp
  have C3 : Hid (Cl w w3 q b h n es R w.heap.size w2.heap.size (w.heap.size + 1) w.heap.size [] []) := by
    have hF := fun k hk => t1.lt k hk
    refine ⟨t2.below bw3, it3, (bw3.block _ (by omega)).trans r2', m2'.heap (bw3.block _ (by omega)), fun p => ⟨fun ⟨v, hv⟩ => (by cases hv), fun hp => (by cases hp)⟩, fun p v hv => (by cases hv), fun p v p' v' k hv => (by cases hv), ⟨by omega, by omega, by omega⟩, ⟨by omega, by omega, by omega⟩, hF, bd2.trans (bw3.mono (by omega)), by omega⟩
  have q22 := t2.c2
  have hmk := make_map
  clear t1 t2 it3 bw3 bw2 b2 r2 m2 bm zm z2 r2' m2' bd2 hln hlen
  go_enter Tryd.func15, Tryd.ntmps15
  go_wp2_with (go_at_call 33; refine (tOrNone_any q w).mono ?_; rintro e w0 ⟨rfl, h0⟩; have h0 := h0.symm; subst h0)
  go_region_held3 (fun w' => w'.cell? ⟨q, 0, none⟩ = some (.int .i64 (h : Int)) ∧ w'.cell? ⟨q, 1, none⟩ = some (.int .i64 (n : Int)) ∧ w'.cell? ⟨q, 2, none⟩ = some (.map (some b)) ∧ (Builtin.len_ #[71] 3 #[.map (some b)]).run Tryd.prog w' = .ok (.int .i64 (nl : Int)) w') (first | exact SD0 | exact SD1 | exact SD2 | (rw [hw2] at SD2; exact SD2)) (fail)
  have hq1 : w.heap.size + 1 ≠ w.heap.size := by omega
  clear S0 SL0 SL1 SL2 SD0 SD1 SD2 hmk hw2 hbF
  go_wp2
  clear hrg q22
  rw [z2'] at C3
  go_loopw [30] (fun _ w' => ∃ es2 sk, Hid (Cl w w' q b h n es R w.heap.size (w.heap.size + 2) (w.heap.size + 1) w.heap.size es2 sk)) (fun _ w' => w'.rangeLeft b (w.heap.size + 2))
  case atStart => exact ⟨[], [], C3⟩
  case round =>
    clear C3
    obtain ⟨es2, sk, C⟩ := hrel
    rcases C.out.it.next 0 with ⟨hall, hnx⟩ | ⟨p, v, w1, hmem, hnin, hInR, hnx, bt1, sz1, it1, hlt1, hent⟩
    · obtain ⟨t4, hF4⟩ := C.out.done hall
      have T4 := hid t4
      have HF4 := hid hF4
      clear t4 hF4 hall
      go_wp2
      go_ret
      refine ⟨w.heap.size + 1, _, rfl, ⟨⟨w.heap.size, es2, ?_, rfl⟩, hLs, g1, g8, fun k hk => Nat.le_trans hT (HF4.out k hk), by rw [hn.out]; exact n20⟩, HF4.out, C.out.bel⟩
      rw [hn.out, hR.out]
      exact T4.out
    · obtain ⟨n1, n2, n3⟩ := C.out.ne
      obtain ⟨l1, l2, l3⟩ := C.out.lo
      obtain ⟨e1, e2⟩ := C.out.src.el p v hmem
      have hblk : ∀ k, Fb q b es k → w1.heap[k]? = wr.heap[k]? := fun k hk => bt1.block k (C.out.src.lt k hk) (by have := C.out.bB k hk; omega)
      have o1 : Own w1 0 v (svs (R p)) := e1.kept (by omega) fun k hk => hblk k (.inr (.inr ⟨p, v, hmem, hk⟩))
      obtain ⟨a, cap, hv, hA, hln, hcp⟩ := o1.at
      obtain ⟨m, hm⟩ : ∃ m, Hid ((R p).length = m) := ⟨_, rfl⟩
      have hmb := hRlen.out p
      rw [hm.out] at hv hmb
      have hrow1 : w1.heap[w.heap.size + 1]? = some (.cells #[.int .i64 (h : Int), .int .i64 (n : Int), .map (some w.heap.size)] 73 (0, 0)) := (bt1.block _ (lt_of_heap C.out.row) (Ne.symm n2)).trans C.out.row
      have hmp1 : Mp w1 w.heap.size es2 := C.out.mp.heap (bt1.block _ C.out.mp.lt (Ne.symm n3))
      obtain ⟨x1, x2⟩ := p
      simp only at hnx hent
      have ba := (Below.refl w1.heap.size w1).alloc (Nat.le_refl _) (.cells #[Value.int .i64 x1, .int .i64 x2] 80)
      have ra := heap_alloc_new w1 (.cells #[Value.int .i64 x1, .int .i64 x2] 80)
      obtain ⟨w2', hw2'⟩ : ∃ w2, w1.alloc (.cells #[Value.int .i64 x1, .int .i64 x2] 80) = w2 := ⟨_, rfl⟩
      rw [hw2'] at ba ra
      have hq2l : w.heap.size + 1 < w1.heap.size := lt_of_heap hrow1
      have hb2l : w.heap.size < w1.heap.size := hmp1.lt
      have hrow2 := (ba.block _ hq2l).trans hrow1
      have S0 : S32 (w.heap.size + 1) w1.heap.size (.map (some w.heap.size)) (.int .i64 x1) (.int .i64 x2) w2' := ⟨by rw [cell_of_row _ _ _ _ _ _ hrow2]; rfl, by rw [cell_of_row _ _ _ _ _ _ ra]; rfl, by rw [cell_of_row _ _ _ _ _ _ ra]; rfl⟩
      have hpl : w1.heap.size < w2'.heap.size := lt_of_heap ra
      have hq2l' : w.heap.size + 1 < w2'.heap.size := Nat.lt_of_lt_of_le hq2l ba.size
      have bd := (Below.refl w2'.heap.size w2').drew
      have i1 := tcopied_any (R (x1, x2)) a cap w2'.drew (by have := hRlen.out (x1, x2); omega) ((hA.below ba (Nat.le_refl _)).below bd (Nat.le_refl _))
      rw [hm.out, hv.symm] at i1
      have hno : ¬ has es2 (x1, x2) := fun e => hnin ((C.out.ks _).1 e)
      have mp3 := fun w3 (bb : Below w2'.drew.heap.size w2'.drew w3) => (hmp1.heap ((bb.block _ (show w.heap.size < w2'.drew.heap.size from Nat.lt_of_lt_of_le hb2l ba.size)).trans (ba.block _ hb2l))).store hInR hno (.slice (some ⟨w2'.heap.size, 0, none⟩) m m)
      simp only at mp3
      have BA := hid ba
      have BT1 := hid bt1
      have IT1 := hid it1
      have HLT := hid hlt1
      have SZ1 := hid sz1
      clear e1 e2 hblk o1 hA hv hrow1 hmp1 ra hrow2 hno hInR hmem ba bt1 it1 hlt1 sz1
      go_wp2
      go_region_held3 (fun w' => w'.cell? ⟨w.heap.size + 1, 2, none⟩ = some (.map (some w.heap.size)) ∧ w'.cell? ⟨w1.heap.size, 0, none⟩ = some (.int .i64 x1) ∧ w'.cell? ⟨w1.heap.size, 1, none⟩ = some (.int .i64 x2)) (first | exact S0 | exact S3 | exact S4) ((go_at_call 38; refine i1.mono ?_; rintro e w3 ⟨rfl, R3, hw3⟩; have S3 := S0.below (drewBelow5 hw3) hq2l' hpl; obtain ⟨w4, hmu, mp4, bt4, sz4⟩ := mp3 w3 hw3; have S4 := S3.heap (bt4.block _ (Nat.lt_of_lt_of_le hq2l' (drewBelow5 hw3).size) hq1) (bt4.block _ (Nat.lt_of_lt_of_le hpl (drewBelow5 hw3).size) (Nat.ne_of_gt hb2l))))
      have C4 := C.out.step hnin BT1.out SZ1.out IT1.out (BA.out.trans ((drewBelow5 hw3).mono BA.out.size)) (g := w2'.heap.size) R3 BA.out.size (hRlen.out _) (by rw [hm.out]; exact mp4) bt4 sz4
      have hC := hid C4.1
      have hrl := hid (show w4.rangeLeft b (w.heap.size + 2) < wr.rangeLeft b (w.heap.size + 2) by rw [C4.2]; exact HLT.out)
      clear C4 S3 S4 hmu mp4 bt4 sz4 R3 hw3 i1 mp3 S0
      go_wp2
      exact ⟨⟨_, _, hC⟩, hrl.out⟩
end Go.Proofs.YtfddkmkibfmmgaaDoor
