import Derived.Test.YtbodgecbakcaaaaGreatDoorPkO1
import Derived.Test.YtbodgecbakcaaaaGreatDoorPkM1
import Derived.Lib.BufferWrite
import Derived.Lib.SlBuf
namespace Go.Proofs.YtbodgecbakcaaaaGreatDoor
open Go.RowKit
structure Tabs (w : World) : Prop where
  rounds : ∀ j, j < 64 → w.cell? ⟨2, j, none⟩ = some (.int .u32 ((Sha.kTab.getD j 0 : Nat) : Int))
  start : ∀ j, j < 8 → w.cell? ⟨3, j, none⟩ = some (.int .u32 ((Sha.iv.l.getD j 0 : Nat) : Int))
theorem Tabs.lt {w : World} (h : Tabs w) : 4 ≤ w.heap.size := by
  have a := block_lt_of_cell (h.rounds 0 (by omega))
  have b := block_lt_of_cell (h.start 0 (by omega))
  simp at a b; omega
theorem Tabs.below {w w' : World} {B : Nat} (h : Tabs w) (hb : Below B w w') (hB : 4 ≤ B) : Tabs w' :=
  ⟨fun j hj => (hb.cell (p := ⟨2, j, none⟩) (Nat.lt_of_lt_of_le (by simp) hB)).trans (h.rounds j hj), fun j hj => (hb.cell (p := ⟨3, j, none⟩) (Nat.lt_of_lt_of_le (by simp) hB)).trans (h.start j hj)
  ⟩
theorem info64b : (Tryz.prog.info? 138).map (·.size) = some 64 := by kernel_rfl
theorem info8w : (Tryz.prog.info? 137).map (·.size) = some 8 := by kernel_rfl
structure FoldInv (s : Sha.St) (bl : List UInt8) (w : World) (M : Nat) (w' : World) : Prop where
  b0 : w'.heap[w.heap.size]? = some (.cells (wv s.l).toArray 137 (0, 0))
  b2 : ∃ C : Array Value, C.size = 8 ∧ w'.heap[w.heap.size + 1 + 1]? = some (.cells C 137 (0, 0))
  bM : w'.heap[M]? = some (.cells (wv (Sha.sched bl 64)).toArray 154 (0, 0))
  lt : w.heap.size + 3 ≤ M
  below : Below w.heap.size w w'
theorem foldInv_start (s : Sha.St) (bl : List UInt8) (w w1 : World) (B C Z : Array Value) (tB : TypeId) (hC : C.size = 8)
    (h : Below (((w.alloc (.cells (wv s.l).toArray 137)).alloc (.cells B tB)).alloc (.cells C 137)).heap.size (((w.alloc (.cells (wv s.l).toArray 137)).alloc (.cells B tB)).alloc (.cells C 137)) w1) :
    FoldInv s bl w w1.heap.size ((w1.alloc (.cells Z 154)).setRow w1.heap.size (wv (Sha.sched bl 64)).toArray) := by
  obtain ⟨h0, _, h2, h3⟩ := alloc3 w (.cells (wv s.l).toArray 137) (.cells B tB) (.cells C 137)
  have hs : w.heap.size + 3 ≤ w1.heap.size := by have := h.size; omega
  refine ⟨?_, ⟨C, hC, ?_⟩, setRow_heap _ _ _ _ _ _ (heap_alloc_new w1 _), hs, ?_⟩
  · rw [setRow_other _ _ _ _ (by omega), Below.heap_alloc _ _ _ (by omega), h.block _ (by omega)]; exact h0
  · rw [setRow_other _ _ _ _ (by omega), Below.heap_alloc _ _ _ (by omega), h.block _ (by omega)]; exact h2
  · exact Below.setRow (((below_alloc3 w _ _ _).trans (h.mono (by omega))).alloc (by omega) _) (by omega) _
theorem wv_size64 (bl : List UInt8) : (wv (Sha.sched bl 64)).toArray.size = 64 := by simp [wv, Sha.sched_length]
set_option maxRecDepth 100000 in
set_option maxHeartbeats 400000 in
theorem fold_any (s : Sha.St) (hs : s.ok) (bl : List UInt8) (hb : bl.length = 64) (w : World) (T : Tabs w) :
    Calls Tryz.prog 102 #[.agg (wv s.l).toArray, .agg (bv bl).toArray] w fun e w' => e = .returned (.agg (wv (Sha.fold s bl).l).toArray) ∧ Below w.heap.size w w' := by
  have hsz : (Tryz.prog.info? 138).map (·.size) = some (bv bl).toArray.size := by rw [info64b]; simp [bv, hb]
  have hsw : (Tryz.prog.info? 154).map (·.size) = some (wv (Sha.sched bl 64)).toArray.size := by rw [info64w]; simp [wv, Sha.sched_length]
  have Hsz : Hid _ := hsz
  have Hsw : Hid _ := hsw
  clear hsz hsw
  go_enter Tryz.func102, Tryz.ntmps102
  go_wp2_with (with_reducible show wpList _ _ _ (Oper.mk _ (Op.load _ _) _ _ _ _ :: _) _ _; refine wpList_load_row rfl 138 _ rfl (w.heap.size + 1) rfl 138 _ (0, 0) _ (alloc3 w _ _ _).2.1 Tryz.underlying138 rfl Hsz.out ?_)
  refine (schedule_any bl hb _).mono ?_; rintro e w1 ⟨rfl, hb1⟩
  go_wp2_with (with_reducible show wpList _ _ _ (Oper.mk _ (Op.store _ _ _) _ _ _ _ :: _) _ _; go_must (refine wpList_store_row rfl 154 _ _ rfl w1.heap.size _ rfl rfl 154 _ (heap_alloc_new w1 _) Hsw.out (by rw [wv_size64 bl]; decide +kernel) (wv_one _) ?_))
  have inv := foldInv_start s bl w w1 _ _ (wv (List.replicate 64 0)).toArray _ rfl hb1
  generalize hW2 : (w1.alloc _).setRow w1.heap.size (wv (Sha.sched bl 64)).toArray = w2
  replace inv : FoldInv s bl w w1.heap.size w2 := hW2 ▸ inv
  generalize w1.heap.size = M at *
  clear hW2 hb1
  have T2 := T.below inv.below T.lt
  have z0 := wv_cell inv.b0 0 (by simp [Sha.St.l])
  have z1 := wv_cell inv.b0 1 (by simp [Sha.St.l])
  have z2 := wv_cell inv.b0 2 (by simp [Sha.St.l])
  have z3 := wv_cell inv.b0 3 (by simp [Sha.St.l])
  have z4 := wv_cell inv.b0 4 (by simp [Sha.St.l])
  have z5 := wv_cell inv.b0 5 (by simp [Sha.St.l])
  have z6 := wv_cell inv.b0 6 (by simp [Sha.St.l])
  have z7 := wv_cell inv.b0 7 (by simp [Sha.St.l])
  simp only [Sha.St.l, List.getD_cons_zero, List.getD_cons_succ] at z0 z1 z2 z3 z4 z5 z6 z7
  go_quiet (fail)
  go_wp2
  go_quiet (fail)
  go_wp2
  go_loopw [6, 7, 8, 9, 10, 11, 12, 13, 37] (fun va vb vc vd ve vf vg vh i w' => ∃ (k : Nat) (v : Sha.St), k ≤ 64 ∧ i = .int .i64 k ∧ Hid (v = Sha.rnds (Sha.sched bl 64) s k) ∧ v.ok ∧ va = .int .u32 v.a ∧ vb = .int .u32 v.b ∧ vc = .int .u32 v.c ∧ vd = .int .u32 v.d ∧ ve = .int .u32 v.e ∧ vf = .int .u32 v.f ∧ vg = .int .u32 v.g ∧ vh = .int .u32 v.h ∧ FoldInv s bl w M w') (fun _ _ _ _ _ _ _ _ i _ => 64 - (intOf i).toNat)
  case atStart => exact ⟨0, s, by omega, rfl, rfl, hs, rfl, rfl, rfl, rfl, rfl, rfl, rfl, rfl, inv.b0, inv.b2, inv.bM, inv.lt, below_drewN (below_drewN inv.below _) _⟩
  case round =>
    clear T2 z0 z1 z2 z3 z4 z5 z6 z7 inv
    obtain ⟨k, ⟨a, b, c, d, e, f, g, h⟩, hk, rfl, hv, ⟨va, vb, vc, vd, ve, vf, vg, vh⟩, rfl, rfl, rfl, rfl, rfl, rfl, rfl, rfl, inv⟩ := hrel
    dsimp only at va vb vc vd ve vf vg vh ⊢
    by_cases hlt : k < 64
    · have b3 : (k : Int) < 64 := by omega
      obtain ⟨kk, ek, lk, ck⟩ : ∃ y : Nat, Hid (y = Sha.kTab.getD k 0) ∧ y < 4294967296 ∧ wr.cell? ⟨2, k, none⟩ = some (.int .u32 (y : Int)) := ⟨_, rfl, Sha.kTab_getD_lt k, (T.below inv.below T.lt).rounds k hlt⟩
      obtain ⟨ww, ew, lw, cw⟩ : ∃ y : Nat, Hid (y = (Sha.sched bl 64).getD k 0) ∧ y < 4294967296 ∧ wr.cell? ⟨M, k, none⟩ = some (.int .u32 (y : Int)) := ⟨_, rfl, Sha.sched_getD_lt bl 64 k, wv_cell inv.bM k (by rw [Sha.sched_length]; exact hlt)⟩
      have hS1 := Sha.S1_walk e ve
      have hS0 := Sha.S0_walk a va
      have hch := Sha.ch_walk e f g ve vf vg
      have hmaj := Sha.maj_walk a b c va vb vc
      go_wp2_with (go_at_call 111; refine (ror_any _ _ (by assumption) (by omega) (by omega) _).mono ?_; rintro e w' ⟨rfl, rfl⟩)
      go_quiet (fail)
      go_wp2_with (go_at_call 111; refine (ror_any _ _ (by assumption) (by omega) (by omega) _).mono ?_; rintro e w' ⟨rfl, rfl⟩)
      refine ⟨⟨k + 1, Sha.step kk ww ⟨a, b, c, d, e, f, g, h⟩, by omega, by go_num, ?_, Sha.step_ok _ _ _ ⟨va, vb, vc, vd, ve, vf, vg, vh⟩, val_int (Sha.stepA_walk kk ww a b c d e f g h), rfl, rfl, rfl, val_int (Sha.stepE_walk kk ww a b c d e f g h), rfl, rfl, rfl, ⟨inv.b0, inv.b2, inv.bM, inv.lt, below_drewN inv.below _⟩⟩, by simp [intOf]; omega⟩
      show Sha.step kk ww ⟨a, b, c, d, e, f, g, h⟩ = Sha.step (Sha.kTab.getD k 0) ((Sha.sched bl 64).getD k 0) (Sha.rnds (Sha.sched bl 64) s k)
      rw [← hv.out, ← ek.out, ← ew.out]
    · obtain rfl : k = 64 := by omega
      have T2 := T.below inv.below T.lt
      have z0 := wv_cell inv.b0 0 (by simp [Sha.St.l])
      have z1 := wv_cell inv.b0 1 (by simp [Sha.St.l])
      have z2 := wv_cell inv.b0 2 (by simp [Sha.St.l])
      have z3 := wv_cell inv.b0 3 (by simp [Sha.St.l])
      have z4 := wv_cell inv.b0 4 (by simp [Sha.St.l])
      have z5 := wv_cell inv.b0 5 (by simp [Sha.St.l])
      have z6 := wv_cell inv.b0 6 (by simp [Sha.St.l])
      have z7 := wv_cell inv.b0 7 (by simp [Sha.St.l])
      simp only [Sha.St.l, List.getD_cons_zero, List.getD_cons_succ] at z0 z1 z2 z3 z4 z5 z6 z7
      obtain ⟨C, hC, hb2⟩ := inv.b2
      go_wp2_with (with_reducible show wpList _ _ _ (Oper.mk _ (Op.store _ _ _) _ _ _ _ :: _) _ _; go_must (refine wpList_store_row rfl 137 _ _ rfl (w.heap.size + 1 + 1) _ rfl rfl 137 C hb2 (by rw [info8w]; simp) (by rw [hC]; simp) (by simp [Value.oneCell']) ?_))
      have hf : Sha.addSt s ⟨a, b, c, d, e, f, g, h⟩ = Sha.fold s bl := by rw [hv.out]; rfl
      rw [addSt_walk, hf]
      refine bodyPost_ret (v := .agg (wv (Sha.fold s bl).l).toArray) (results_cell_row rfl _ _ (w.heap.size + 1 + 1) 137 _ (0, 0) _ rfl (setRow_heap _ _ C _ _ _ hb2) Tryz.underlying137 rfl info8w) rfl ⟨rfl, ?_⟩
      exact Below.setRow inv.below (by omega) _
end Go.Proofs.YtbodgecbakcaaaaGreatDoor

namespace Go.Proofs.YtbodgecbakcaaaaGreatDoor
open Go.RowKit
def sv (l : List UInt8) : Value := .string ⟨l.toArray⟩
theorem oneCell_of {l : List Value} (h : ∀ v ∈ l, v.oneCell' = true) : l.toArray.all (·.oneCell') = true := all_oneCell_toArray h
theorem bv_mem {l : List UInt8} {v : Value} (h : v ∈ bv l) : v.oneCell' = true := by
  simp only [bv, List.mem_map] at h
  obtain ⟨n, _, rfl⟩ := h
  rfl
theorem wv_mem {l : List Nat} {v : Value} (h : v ∈ wv l) : v.oneCell' = true := by
  simp only [wv, List.mem_map] at h
  obtain ⟨n, _, rfl⟩ := h
  rfl
@[simp] theorem bv_length (l : List UInt8) : (bv l).length = l.length := by simp [bv]
@[simp] theorem wv_length (l : List Nat) : (wv l).length = l.length := by simp [wv]
theorem bv_append (a b : List UInt8) : bv (a ++ b) = bv a ++ bv b := by simp [bv]
def hcells (st : Sha.St) (rest : List UInt8) (n : Nat) : List Value := wv st.l ++ (bv rest ++ [.int .i64 (n : Int)])
theorem hcells_length {st : Sha.St} {rest : List UInt8} {n : Nat} (h : rest.length = 64) : (hcells st rest n).length = 73 := by
  simp [hcells, Sha.St.l, h]
theorem rangeAt_of_list {w : World} {b : Nat} {L : List Value} {t : TypeId} {fr : Nat × Nat} (hb : w.heap[b]? = some (.cells L.toArray t fr)) {o : Nat} {l : List Value} (h : ∀ j v, l[j]? = some v → L[o + j]? = some v) : w.rangeAt b o l := fun j v hv => by
  rw [cell_of_row w b (o + j) _ t fr hb]
  simpa using h j v hv
theorem hcells_state {w : World} {b : Nat} {st : Sha.St} {rest : List UInt8} {n : Nat} {t : TypeId} (h : w.heap[b]? = some (.cells (hcells st rest n).toArray t (0, 0))) : w.rangeAt b 0 (wv st.l) :=
  rangeAt_of_list h fun j v hv => by
    have hj : j < (wv st.l).length := (List.getElem?_eq_some_iff.1 hv).1
    rw [hcells, Nat.zero_add, List.getElem?_append_left hj]; exact hv
theorem hcells_rest {w : World} {b : Nat} {st : Sha.St} {rest : List UInt8} {n : Nat} {t : TypeId} (h : w.heap[b]? = some (.cells (hcells st rest n).toArray t (0, 0))) : w.rangeAt b 8 (bv rest) :=
  rangeAt_of_list h fun j v hv => by
    have hj : j < (bv rest).length := (List.getElem?_eq_some_iff.1 hv).1
    have h8 : (wv st.l).length = 8 := by simp [Sha.St.l]
    rw [hcells, List.getElem?_append_right (by omega), h8, show 8 + j - 8 = j from by omega, List.getElem?_append_left hj]; exact hv
theorem hcells_taken {w : World} {b : Nat} {st : Sha.St} {rest : List UInt8} {n : Nat} {t : TypeId} (h : w.heap[b]? = some (.cells (hcells st rest n).toArray t (0, 0))) (hl : rest.length = 64) : w.cell? ⟨b, 72, none⟩ = some (.int .i64 (n : Int)) := by
  rw [cell_of_row w b 72 _ t _ h]
  have h8 : (wv st.l).length = 8 := by simp [Sha.St.l]
  have h64 : (bv rest).length = 64 := by simp [hl]
  simp only [List.getElem?_toArray]
  rw [hcells, List.getElem?_append_right (by omega), h8, List.getElem?_append_right (by omega), h64]
  rfl
structure But (b : Nat) (w w' : World) : Prop where
  os : w'.os = w.os
  tape : w'.tape = w.tape
  output : w'.output = w.output
  size : w.heap.size ≤ w'.heap.size
  block : ∀ k, k < w.heap.size → k ≠ b → w'.heap[k]? = w.heap[k]?
theorem But.refl (b : Nat) (w : World) : But b w w := ⟨rfl, rfl, rfl, Nat.le_refl _, fun _ _ _ => rfl⟩
theorem But.trans {b : Nat} {w w1 w2 : World} (h : But b w w1) (k : But b w1 w2) : But b w w2 :=
  ⟨k.os.trans h.os, k.tape.trans h.tape, k.output.trans h.output, Nat.le_trans h.size k.size, fun i hi hb => (k.block i (Nat.lt_of_lt_of_le hi h.size) hb).trans (h.block i hi hb)⟩
theorem But.below {b B : Nat} {w w' : World} (h : But b w w') (hB : B ≤ b) (hB' : B ≤ w.heap.size) : Below B w w' :=
  ⟨h.os, h.tape, h.output, h.size, fun k hk => h.block k (by omega) (by omega)⟩
theorem But.ofBelow {b : Nat} {w w' : World} (h : Below w.heap.size w w') : But b w w' := ⟨h.os, h.tape, h.output, h.size, fun k hk _ => h.block k hk⟩
theorem But.setRow {b : Nat} {w w' : World} (h : But b w w') (cs : Array Value) : But b w (w'.setRow b cs) :=
  ⟨h.os, h.tape, h.output, by rw [setRow_size]; exact h.size, fun k hk hb => (setRow_other w' b k cs hb).trans (h.block k hk hb)⟩
theorem But.drew {b : Nat} {w w' : World} (h : But b w w') : But b w w'.drew := ⟨h.os, h.tape, h.output, h.size, h.block⟩
theorem But.tabs {b : Nat} {w w' : World} (h : But b w w') (T : Tabs w) (hb : 4 ≤ b) : Tabs w' := T.below (h.below hb T.lt) (Nat.le_refl 4)
theorem run_copy_min {P : Program} (w : World) (dT sT ty elem : TypeId) (g o dLen dCap : Nat) (s : ByteArray) (cur : Array Value) (t : TypeId)
    (hu : P.underlying dT = some (.slice elem)) (hs : (P.info? elem).map (·.size) = some 1) (hg : w.heap[g]? = some (.cells cur t (0, 0))) (hfit : o + min s.size dLen ≤ cur.size) :
    (Builtin.copy_ #[dT, sT] ty #[.slice (some ⟨g, o, none⟩) dLen dCap, .string s]).run P w =
      .ok (goInt ((min s.size dLen : Nat) : Int)) (w.setRow g (cur.toList.take o ++ bv (s.data.toList.take (min s.size dLen)) ++ cur.toList.drop (o + min s.size dLen)).toArray) := by
  have hlen : (bv (s.data.toList.take (min s.size dLen))).length = min s.size dLen := by
    have : s.data.toList.length = s.size := by rw [Array.length_toList]; rfl
    simp [List.length_take, this]
  have hst := run_storeCells_at P g o t (bv (s.data.toList.take (min s.size dLen))) 0 cur w hg (by rw [hlen]; simpa using hfit) (fun v hv => bv_mem hv)
  rw [hlen] at hst
  simp only [Nat.add_zero] at hst
  have htk : List.take (Nat.min s.size dLen) (List.map (fun b : UInt8 => Value.int IntKind.u8 (b.toNat : Int)) s.data.toList) = bv (s.data.toList.take (min s.size dLen)) := by
    rw [bv, List.map_take]
  cases hq : P.info? elem with
  | none => simp [hq] at hs
  | some i =>
    simp [Builtin.copy_, run_underlying hu, Builtin.lenOf, Builtin.firstCells, sizeOf, typeInfo, hq]
    rw [htk, hst]
    simp [Result.andThen]
theorem run_conv_bytes {P : Program} (w : World) (src dst e : TypeId) (g o len cap : Nat) (bs : List UInt8) (hl : bs.length = len)
    (hs : P.underlying src = some (.slice e)) (he : P.underlying e = some (.int .u8)) (hd : P.underlying dst = some .string)
    (hc : w.rangeAt g o (bv bs)) : (convert src dst (.slice (some ⟨g, o, none⟩) len cap)).run P w = .ok (sv bs) w := by
  have hb : (bv bs) = (bs.map fun b => (b.toNat : Int)).map (Value.int .u8) := by simp [bv]
  have hlc : (loadCells ⟨g, o, none⟩ len).run P w = .ok ((bs.map fun b => (b.toNat : Int)).map (Value.int .u8)).toArray w := by
    rw [← hb, ← hl, ← bv_length bs]
    exact run_loadCells_list (P := P) w ⟨g, o, none⟩ (bv bs) (fun j v hv => by rw [Addr.add_mid]; exact hc j v hv)
  rw [run_convert_bytes_string w src dst e _ len cap hs he hd, run_bytesToString w _ len cap _ hlc]
  congr 1
  have key : ∀ (l : List UInt8) (r : ByteArray), (l.map fun b => (b.toNat : Int)).foldl (fun r n => r.push (UInt8.ofNat n.toNat)) r = ⟨r.data ++ l.toArray⟩ := by
    intro l
    induction l with
    | nil => intro r; simp
    | cons b l ih =>
      intro r
      rw [List.map_cons, List.foldl_cons, ih]
      simp [ByteArray.push]
  rw [key, sv]
  simp
end Go.Proofs.YtbodgecbakcaaaaGreatDoor

namespace Go.Proofs.YtbodgecbakcaaaaGreatDoor
open Go.RowKit
open Go.WideMaps (KeyLaw)
open Go.ChangeMaps (setBlock)
theorem Mp.keysOk {arr : Array MapEntry} {es : List ((Int × Int) × Value)} (h : arr.toList.map (fun e => (e.key, e.val)) = es.map (fun x => (kv x.1, x.2))) (hr : ∀ x ∈ es, InR x.1) : ∀ e ∈ arr.toList, ∃ l, keyOf Tryz.prog 127 e.key = some l := fun e he => by
  have h1 : (e.key, e.val) ∈ es.map (fun x => (kv x.1, x.2)) := by rw [← h]; exact List.mem_map.2 ⟨e, he, rfl⟩
  obtain ⟨x, hx, hxe⟩ := List.mem_map.1 h1
  injection hxe with h2 h3
  rw [← h2]
  exact keyPl (hr x hx)
theorem Mp.memE {arr : Array MapEntry} {es : List ((Int × Int) × Value)} {p : Int × Int} (h : arr.toList.map (fun e => (e.key, e.val)) = es.map (fun x => (kv x.1, x.2))) {e : MapEntry} (he : e ∈ arr.toList) (hk : e.key = kv p) : (p, e.val) ∈ es := by
  have h1 : (e.key, e.val) ∈ es.map (fun x => (kv x.1, x.2)) := by rw [← h]; exact List.mem_map.2 ⟨e, he, rfl⟩
  obtain ⟨x, hx, hxe⟩ := List.mem_map.1 h1
  injection hxe with h2 h3
  have := kv_inj (h2.trans hk)
  rw [← this, ← h3]
  exact hx
theorem Mp.notE {arr : Array MapEntry} {es : List ((Int × Int) × Value)} {p : Int × Int} (h : arr.toList.map (fun e => (e.key, e.val)) = es.map (fun x => (kv x.1, x.2))) (hk : ∀ e ∈ arr.toList, e.key ≠ kv p) : ¬ has es p := fun ⟨v, hv⟩ => by
  have h1 : (kv p, v) ∈ arr.toList.map (fun e => (e.key, e.val)) := by rw [h]; exact List.mem_map.2 ⟨(p, v), hv, rfl⟩
  obtain ⟨e, he, hxe⟩ := List.mem_map.1 h1
  injection hxe with h2 h3
  exact hk e he h2
theorem Mp.lookup {w : World} {b : Nat} {es : List ((Int × Int) × Value)} (h : Mp w b es) {p : Int × Int} (hp : InR p) : (Instr.lookup 89 (.map (some b)) (kv p) false).run Tryz.prog w = .ok (look es p) w := by
  obtain ⟨arr, clock, hb, h1, h2, h3, h4, h5⟩ := h
  obtain ⟨l, hl⟩ := keyPl hp
  rcases lawPl.find w hl arr.toList (Mp.keysOk h3 h5) with ⟨f1, f2⟩ | ⟨j, e0, f1, f2, f3⟩
  · rw [look_none (Mp.notE h3 f2)]
    simp [Instr.lookup, run_underlying undMp, MapKept.run_getObj_map hb, lawPl.check w _ hl, f1, zeroSl w, Result.andThen]
  · rw [look_mem h4 (Mp.memE h3 (List.mem_of_getElem? f2) f3)]
    simp [Instr.lookup, run_underlying undMp, MapKept.run_getObj_map hb, lawPl.check w _ hl, f1, Result.andThen]
theorem But.setBlock {b : Nat} {w w' : World} (h : But b w w') (o : Obj) : But b w (setBlock w' b o) :=
  ⟨h.os, h.tape, h.output, by simp only [Go.ChangeMaps.setBlock, Array.size_setIfInBounds]; exact h.size, fun k hk hne => by
    have : (Go.ChangeMaps.setBlock w' b o).heap[k]? = w'.heap[k]? := by simp only [Go.ChangeMaps.setBlock]; rw [Array.getElem?_setIfInBounds, if_neg (fun e => hne e.symm)]
    exact this.trans (h.block k hk hne)⟩
theorem setBlock_at {w : World} {b : Nat} {o o' : Obj} (h : w.heap[b]? = some o) : (setBlock w b o').heap[b]? = some o' := by
  have hlt := (Array.getElem?_eq_some_iff.1 h).1
  simp only [Go.ChangeMaps.setBlock]
  rw [Array.getElem?_setIfInBounds, if_pos rfl, if_pos hlt]
theorem Mp.entry {w : World} {b : Nat} {es : List ((Int × Int) × Value)} (h : Mp w b es) {p : Int × Int} (hp : InR p) :
    ∃ (st : Nat) (w1 : World), (Instr.mapEntry 89 (.map (some b)) (kv p)).run Tryz.prog w = .ok (.tuple #[look es p, goInt st]) w1 ∧ But b w w1 ∧ w1.heap.size = w.heap.size ∧ b < w.heap.size ∧
      ∀ (w2 : World) (val : Value), w2.heap[b]? = w1.heap[b]? → ∃ w3, (Instr.entryStore 89 (.map (some b)) (goInt st) val).run Tryz.prog w2 = .ok () w3 ∧ Mp w3 b (put es p val) ∧ But b w2 w3 ∧ w3.heap.size = w2.heap.size := by
  obtain ⟨arr, clock, hb, h1, h2, h3, h4, h5⟩ := h
  obtain ⟨l, hl⟩ := keyPl hp
  have hlt := (Array.getElem?_eq_some_iff.1 hb).1
  rcases lawPl.find w hl arr.toList (Mp.keysOk h3 h5) with ⟨f1, f2⟩ | ⟨j, e0, f1, f2, f3⟩
  · have hno := Mp.notE h3 f2
    rw [look_none hno]
    refine ⟨clock, setBlock w b (.map (arr.push ⟨kv p, .slice none 0 0, clock⟩) (clock + 1)), ?_, (But.refl b w).setBlock _, by simp [setBlock], hlt, fun w2 val hw2 => ?_⟩
    · simp [Instr.mapEntry, run_underlying undMp, MapKept.run_getObj_map hb, lawPl.check w false hl, f1, MapKept.run_setObj_map _ hb, Result.andThen, setBlock]
    · rw [setBlock_at hb] at hw2
      have hidx : (arr.push ⟨kv p, .slice none 0 0, clock⟩).findIdx? (fun e => ((e.born : Nat) : Int) == ((clock : Nat) : Int)) = some arr.size := by
        rw [WideElems.findIdx_arr]
        have := WideElems.findIdx_born (l := (arr.push ⟨kv p, .slice none 0 0, clock⟩).toList) (j := arr.size) (e0 := ⟨kv p, .slice none 0 0, clock⟩) (by
          simp only [Array.toList_push, List.map_append, List.map_cons, List.map_nil]
          refine List.nodup_append.2 ⟨h2, by simp, fun a ha c hc e1 => ?_⟩
          simp only [List.mem_singleton] at hc
          obtain ⟨x, hx, rfl⟩ := List.mem_map.1 ha
          have := h1 x hx
          omega) (by simp)
        exact this
      have hmod : (arr.push ⟨kv p, .slice none 0 0, clock⟩).modify arr.size (fun e => { e with val := val }) = arr.push ⟨kv p, val, clock⟩ := by
        apply Array.ext'
        rw [Array.toList_modify, Array.toList_push, Array.toList_push, ← Array.length_toList, WideElems.modify_last]
      refine ⟨setBlock w2 b (.map (arr.push ⟨kv p, val, clock⟩) (clock + 1)), ?_, ⟨_, _, setBlock_at hw2, ?_, ?_, ?_, put_keys h4, ?_⟩, (But.refl b w2).setBlock _, by simp [setBlock]⟩
      · simp [Instr.entryStore, MapKept.run_getObj_map hw2, asInt, asIntOf, goInt, hidx, hmod, MapKept.run_setObj_map _ hw2, Result.andThen, setBlock]
      · intro x hx
        rw [Array.toList_push, List.mem_append, List.mem_singleton] at hx
        rcases hx with hx | rfl
        · have := h1 x hx; omega
        · simp
      · simp only [Array.toList_push, List.map_append, List.map_cons, List.map_nil]
        refine List.nodup_append.2 ⟨h2, by simp, fun a ha c hc e1 => ?_⟩
        simp only [List.mem_singleton] at hc
        obtain ⟨x, hx, rfl⟩ := List.mem_map.1 ha
        have := h1 x hx
        omega
      · rw [put_new hno]
        simp only [Array.toList_push, List.map_append, List.map_cons, List.map_nil, h3]
      · intro x hx
        rcases mem_put.1 hx with ⟨h6, _⟩ | ⟨_, h6⟩
        · rw [h6]; exact hp
        · exact h5 x h6
  · have hmem := Mp.memE h3 (List.mem_of_getElem? f2) f3
    have hhas : has es p := ⟨_, hmem⟩
    rw [look_mem h4 hmem]
    have hj : arr[j]? = some e0 := by simpa using f2
    have hsame : arr.modify j (fun e => { e with key := kv p }) = arr := by
      apply Array.ext'
      rw [Array.toList_modify, ChangeMaps.modify_eq_set _ _ _ _ f2]
      have : ({ e0 with key := kv p } : MapEntry) = e0 := by rw [← f3]
      rw [this]
      exact WideElems.set_self _ _ _ f2
    refine ⟨e0.born, setBlock w b (.map arr clock), ?_, (But.refl b w).setBlock _, by simp [setBlock], hlt, fun w2 val hw2 => ?_⟩
    · simp [Instr.mapEntry, run_underlying undMp, MapKept.run_getObj_map hb, lawPl.check w false hl, f1, hj, f3, lawPl.stays w hl, hsame, MapKept.run_setObj_map _ hb, Result.andThen, setBlock]
    · rw [setBlock_at hb] at hw2
      have hidx : arr.findIdx? (fun e => ((e.born : Nat) : Int) == ((e0.born : Nat) : Int)) = some j := by
        rw [WideElems.findIdx_arr]
        exact WideElems.findIdx_born h2 f2
      have hlist : (arr.modify j (fun e => { e with val := val })).toList = arr.toList.set j ⟨e0.key, val, e0.born⟩ := by
        rw [Array.toList_modify, ChangeMaps.modify_eq_set _ _ _ _ f2]
      have hborn : (arr.modify j (fun e => { e with val := val })).toList.map (·.born) = arr.toList.map (·.born) := by
        rw [hlist, List.map_set]
        refine WideElems.set_self _ _ _ ?_
        rw [List.getElem?_map, f2]; rfl
      refine ⟨setBlock w2 b (.map (arr.modify j (fun e => { e with val := val })) clock), ?_, ⟨_, _, setBlock_at hw2, ?_, ?_, ?_, put_keys h4, ?_⟩, (But.refl b w2).setBlock _, by simp [setBlock]⟩
      · simp [Instr.entryStore, MapKept.run_getObj_map hw2, asInt, asIntOf, goInt, hidx, MapKept.run_setObj_map _ hw2, Result.andThen, setBlock]
      · intro x hx
        rw [hlist] at hx
        rcases List.mem_or_eq_of_mem_set hx with hx | rfl
        · exact h1 x hx
        · exact h1 e0 (List.mem_of_getElem? f2)
      · rw [hborn]; exact h2
      · rw [put_hit hhas, hlist, List.map_set, h3, List.map_map]
        apply List.ext_getElem?
        intro i
        have hjl : (es.map (fun x => (kv x.1, x.2)))[j]? = some (kv p, e0.val) := by
          rw [← h3, List.getElem?_map, f2, Option.map_some, f3]
        by_cases hij : j = i
        · subst hij
          have hjb := (List.getElem?_eq_some_iff.1 hjl).1
          rw [List.getElem?_set_self hjb, List.getElem?_map]
          rw [List.getElem?_map, Option.map_eq_some_iff] at hjl
          obtain ⟨x, hx, hxe⟩ := hjl
          have g1 : kv x.1 = kv p := congrArg Prod.fst hxe
          have gx := kv_inj g1
          rw [hx, Option.map_some, Function.comp, gx, f3]
          simp only [beq_self_eq_true, if_true]
        · rw [List.getElem?_set_ne hij, List.getElem?_map, List.getElem?_map]
          cases hx : es[i]? with
          | none => rfl
          | some x =>
            have hne : x.1 ≠ p := fun e => by
              rw [List.getElem?_map, Option.map_eq_some_iff] at hjl
              obtain ⟨y, hy, hye⟩ := hjl
              injection hye with g1 g2
              have hyp := kv_inj g1
              rw [List.pairwise_iff_getElem] at h4
              obtain ⟨i1, i2⟩ := List.getElem?_eq_some_iff.1 hx
              obtain ⟨j1, j2⟩ := List.getElem?_eq_some_iff.1 hy
              rcases Nat.lt_or_gt_of_ne hij with hlt' | hlt'
              · exact h4 j i j1 i1 hlt' (by rw [i2, j2, e, hyp])
              · exact h4 i j i1 j1 hlt' (by rw [i2, j2, e, hyp])
            simp [hne]
      · intro x hx
        rcases mem_put.1 hx with ⟨h6, _⟩ | ⟨_, h6⟩
        · rw [h6]; exact hp
        · exact h5 x h6
end Go.Proofs.YtbodgecbakcaaaaGreatDoor
