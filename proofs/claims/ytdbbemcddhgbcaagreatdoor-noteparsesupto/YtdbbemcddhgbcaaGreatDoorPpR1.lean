import Derived.Test.YtdbbemcddhgbcaaGreatDoorPpW7
import Derived.Deep.AppendSrc
import Derived.Lib.ConvBytes
import Derived.LaidEql
import Derived.Stop.Asserts
import Derived.RowKitTokens
namespace Go.Proofs.YtdbbemcddhgbcaaGreatDoor
open Go.RowKit

set_option maxHeartbeats 400000 in
theorem rror_any (x : Nat) (n : Int) (hx : x < 4294967296) (h1 : 1 ≤ n) (h2 : n ≤ 31) (w : World) :
    Calls Tryz.prog 88 #[.int .i64 (x : Int), .int .i64 n] w fun e w' => e = .returned (.int .i64 (Sha.ror n.toNat x : Nat)) ∧ ∃ nq, w' = w.drewN nq := by
  obtain ⟨n, rfl⟩ := Int.eq_ofNat_of_zero_le (show 0 ≤ n by omega)
  rw [Int.toNat_natCast]
  have HR := hid (Sha.rror_walk x n hx (by omega))
  obtain ⟨k, hk⟩ : ∃ k : Nat, k = 32 - n := ⟨_, rfl⟩
  rw [← hk] at HR
  have e1 : (32 : Int) - (n : Int) = (k : Int) := by omega
  have hk2 : (k : Int) ≤ 31 := by omega
  have hw : IntKind.i64.wrap ((x : Int) * 2 ^ k) = (x : Int) * 2 ^ k := by
    have e2 : (x : Int) * 2 ^ k = ((x * 2 ^ k : Nat) : Int) := by rw [Int.natCast_mul, Int.natCast_pow]; rfl
    rw [e2]; exact Sha.i64_small _ (Sha.mul_pow_lt x k hx (by omega))
  clear hk
  go_enter Tryz.func88, Tryz.ntmps88
  go_wp2
  go_quiet (fail)
  go_wp2
  go_ret
  exact ⟨ret_int HR.out, ⟨_, rfl⟩⟩

/-- numbers as ints -/
def nv (l : List Nat) : List Value := l.map fun n => .int .i64 ((n : Nat) : Int)
theorem nv_mem {l : List Nat} {v : Value} (h : v ∈ nv l) : v.oneCell' = true := by
  simp only [nv, List.mem_map] at h
  obtain ⟨n, _, rfl⟩ := h
  rfl
theorem nv_one (l : List Nat) : (nv l).toArray.all (·.oneCell') = true := oneCell_of fun _ h => nv_mem h
@[simp] theorem nv_length (l : List Nat) : (nv l).length = l.length := by simp [nv]
theorem nv_cell {l : List Nat} {w' : World} {g : Nat} {t : TypeId} (h : w'.heap[g]? = some (.cells (nv l).toArray t (0, 0))) (j : Nat) (hj : j < l.length) :
    w'.cell? ⟨g, j, none⟩ = some (.int .i64 ((l.getD j 0 : Nat) : Int)) := by
  rw [cell_of_row w' g j _ t _ h]
  simp [nv, hj]
theorem info64n : (Tryz.prog.info? 123).map (·.size) = some 64 := by kernel_rfl
theorem info8n : (Tryz.prog.info? 92).map (·.size) = some 8 := by kernel_rfl
theorem size8n {l : List Nat} (h : l.length = 8) : (Tryz.prog.info? 92).map (·.size) = some (nv l).toArray.size := by rw [info8n, List.size_toArray, nv_length, h]
theorem size64n {l : List Nat} (h : l.length = 64) : (Tryz.prog.info? 123).map (·.size) = some (nv l).toArray.size := by rw [info64n, List.size_toArray, nv_length, h]
theorem kTab_length : Sha.kTab.length = 64 := by decide +kernel

set_option maxRecDepth 100000 in
set_option maxHeartbeats 400000 in
theorem begins_any (w : World) :
    Calls Tryz.prog 63 #[] w fun e w' => e = .returned (.agg (nv Sha.iv.l).toArray) ∧ Below w.heap.size w w' := by
  go_enter Tryz.func63, Tryz.ntmps63
  go_wp2_with (with_reducible show wpList _ _ _ (Oper.mk _ (Op.store _ _ _) _ _ _ _ :: _) _ _; go_must (refine wpList_store_row rfl 92 _ _ rfl w.heap.size (nv Sha.iv.l).toArray rfl rfl 92 _ (heap_alloc_new w _) (size8n rfl) rfl (nv_one _) ?_))
  refine bodyPost_ret (v := .agg (nv Sha.iv.l).toArray) (results_cell_row rfl _ _ w.heap.size 92 _ (0, 0) _ rfl (setRow_heap _ _ _ _ _ _ (heap_alloc_new w _)) Tryz.underlying92 rfl (size8n rfl)) rfl ⟨rfl, ?_⟩
  exact Below.setRow ((Below.refl _ _).alloc (Nat.le_refl _) _) (Nat.le_refl _) _

set_option maxRecDepth 100000 in
set_option maxHeartbeats 1000000 in
theorem rounds_any (w : World) :
    Calls Tryz.prog 89 #[] w fun e w' => e = .returned (.agg (nv Sha.kTab).toArray) ∧ Below w.heap.size w w' := by
  go_enter Tryz.func89, Tryz.ntmps89
  go_wp2_with (first
    | (with_reducible show wpList _ _ _ (Oper.mk _ (Op.build _ _) _ _ _ _ :: _) _ _; go_must (refine wpList_build rfl 123 _ rfl (by kernel_rfl) ?_))
    | (with_reducible show wpList _ _ _ (Oper.mk _ (Op.store _ _ _) _ _ _ _ :: _) _ _; go_must (refine wpList_store_row rfl 123 _ _ rfl w.heap.size (nv Sha.kTab).toArray rfl (by kernel_rfl) 123 _ (heap_alloc_new w _) (size64n kTab_length) (by kernel_rfl) (nv_one _) ?_)))
  refine bodyPost_ret (v := .agg (nv Sha.kTab).toArray) (results_cell_row rfl _ _ w.heap.size 123 _ (0, 0) _ rfl (setRow_heap _ _ _ _ _ _ (heap_alloc_new w _)) Tryz.underlying123 rfl (size64n kTab_length)) rfl ⟨rfl, ?_⟩
  exact Below.setRow ((Below.refl _ _).alloc (Nat.le_refl _) _) (Nat.le_refl _) _
end Go.Proofs.YtdbbemcddhgbcaaGreatDoor

namespace Go.Proofs.YtdbbemcddhgbcaaGreatDoor
open Go.RowKit

def bigTo (n m k : Nat) : List UInt8 := List.replicate (m - k) 0 ++ Sha.be n k
theorem bigTo_set (n m k : Nat) (hk : k < m) : (bv (bigTo n m k)).toArray.setIfInBounds (m - 1 - k) (.int .u8 ((UInt8.ofNat (n / 256 ^ k)).toNat : Int)) = (bv (bigTo n m (k + 1))).toArray := by
  have e : bigTo n m k = List.replicate (m - 1 - k) 0 ++ 0 :: Sha.be n k := by
    rw [bigTo, show m - k = m - 1 - k + 1 from by omega, List.replicate_succ']; simp
  have g := bv_setAt (List.replicate (m - 1 - k) 0) 0 (UInt8.ofNat (n / 256 ^ k)) (Sha.be n k)
  rw [List.length_replicate] at g
  rw [e, g, bigTo, show m - (k + 1) = m - 1 - k from by omega]
  rfl
theorem big_walk (n k : Nat) : (n : Int) / 2 ^ (8 * k) % 256 = (((UInt8.ofNat (n / 256 ^ k)).toNat : Nat) : Int) := by
  have e : (n : Int) / 2 ^ (8 * k) = ((n / 256 ^ k : Nat) : Int) := by
    rw [Int.natCast_ediv, Int.natCast_pow]
    congr 1
    rw [show (((256 : Nat) : Int)) = 2 ^ 8 from rfl, ← Int.pow_mul]
  rw [e]
  simp [UInt8.toNat_ofNat']

set_option maxRecDepth 100000 in
set_option maxHeartbeats 400000 in
theorem big_gen (n m : Nat) (hm : m ≤ 8) (w : World)
    (hmk : ∀ w, (Instr.makeSlice 43 (.int .i64 (m : Int)) (.int .i64 (m : Int))).run Tryz.prog w = .ok (.slice (some ⟨w.heap.size, 0, none⟩) m m) (w.alloc (.cells (bv (List.replicate m 0)).toArray 5))) :
    Calls Tryz.prog 65 #[.int .i64 (n : Int), .int .i64 (m : Int)] w fun e w' => e = .returned (sv (Sha.be n m)) ∧ Below w.heap.size w w' := by
  have hm' : (m : Int) ≤ 8 := by omega
  go_enter Tryz.func65, Tryz.ntmps65
  go_wp2
  go_loopw [6] (fun i w' => ∃ k : Nat, k ≤ m ∧ i = .int .i64 k ∧ w'.heap[w.heap.size]? = some (.cells (bv (bigTo n m k)).toArray 5 (0, 0)) ∧ Below w.heap.size w w') (fun i _ => m - (intOf i).toNat)
  case atStart => exact ⟨0, by omega, rfl, by rw [heap_alloc_new]; simp [bigTo, Sha.be], (Below.refl _ _).alloc (Nat.le_refl _) _⟩
  case round =>
    obtain ⟨k, hk, rfl, b0, hb⟩ := hrel
    by_cases hlt : k < m
    · have b1 : (k : Int) < (m : Int) := by omega
      have b2 : (0 : Int) ≤ (m : Int) - 1 - (k : Int) := by omega
      have b3 : (m : Int) - 1 - (k : Int) < (m : Int) := by omega
      have t1 : ((m : Int) - 1 - (k : Int)).toNat = m - 1 - k := by omega
      obtain ⟨y, _, _, c4⟩ := bv_cell b0 (m - 1 - k) (by simp [bigTo, Sha.be_length]; omega)
      have f4 : wr.frozen? ⟨w.heap.size, m - 1 - k, none⟩ = false := frozen_of_row _ _ _ _ _ b0
      go_wp2
      refine ⟨⟨k + 1, by omega, by go_num, ?_, hb.setCell (Nat.le_refl _) _⟩, by simp [intOf]; omega⟩
      rw [big_walk, heap_setCell_same _ _ _ _ _ _ b0, bigTo_set n m k hlt]
    · obtain rfl : k = m := by omega
      have b1 : wr.heap[w.heap.size]? = some (.cells (bv (Sha.be n k)).toArray 5 (0, 0)) := by rw [b0, bigTo, Nat.sub_self]; rfl
      have hcv := run_conv_bytes (P := Tryz.prog) wr 43 9 5 w.heap.size 0 k k (Sha.be n k) (Sha.be_length n k) Tryz.underlying43 Tryz.underlying5 Tryz.underlying9 (rangeAt_of_list b1 (fun j v hv => by rw [Nat.zero_add]; exact hv))
      go_wp2
      go_ret
      exact ⟨rfl, hb⟩
theorem big8 (n : Nat) (N : Int) (hN : N = (n : Int)) (w : World) :
    Calls Tryz.prog 65 #[.int .i64 N, .int .i64 8] w fun e w' => e = .returned (sv (Sha.be n 8)) ∧ Below w.heap.size w w' :=
  hN ▸ big_gen n 8 (by omega) w (fun _ => by kernel_rfl)
theorem big4 (n : Nat) (N : Int) (hN : N = (n : Int)) (w : World) :
    Calls Tryz.prog 65 #[.int .i64 N, .int .i64 4] w fun e w' => e = .returned (sv (Sha.be n 4)) ∧ Below w.heap.size w w' :=
  hN ▸ big_gen n 4 (by omega) w (fun _ => by kernel_rfl)
end Go.Proofs.YtdbbemcddhgbcaaGreatDoor

namespace Go.Proofs.YtdbbemcddhgbcaaGreatDoor
open Go.RowKit

/-- The slice value v, of elements of one cell each, owns the cells cs in a row of its own from block 'base' on; its spare cells may be written. -/
def Own (w : World) (base : Nat) (v : Value) (cs : List Value) : Prop :=
  (v = .slice none 0 0 ∧ cs = []) ∨
  ∃ g cap, v = .slice (some ⟨g, 0, none⟩) cs.length cap ∧ base ≤ g ∧ cs.length ≤ cap ∧ cap ≤ maxLen ∧ w.rangeAt g 0 cs ∧ w.there g 0 cap ∧ g < w.heap.size

theorem Own.nil (w : World) (base : Nat) : Own w base (.slice none 0 0) [] := .inl ⟨rfl, rfl⟩

theorem rangeAt_heap {w w' : World} {b o : Nat} {cs : List Value} (h : w.rangeAt b o cs) (hb : w'.heap[b]? = w.heap[b]?) : w'.rangeAt b o cs := fun j v hv => by
  rw [World.cell?_of_block (w := w) hb]; exact h j v hv
theorem there_heap {w w' : World} {b o n : Nat} (h : w.there b o n) (hb : w'.heap[b]? = w.heap[b]?) : w'.there b o n := fun j hj => by
  rw [World.cell?_of_block (w := w) hb, World.frozen?_of_block (w := w) hb]; exact h j hj
theorem Own.kept {w w' : World} {base : Nat} {v : Value} {cs : List Value} (h : Own w base v cs) (hs : w.heap.size ≤ w'.heap.size) (hb : ∀ g, v.ownBlock = some g → w'.heap[g]? = w.heap[g]?) : Own w' base v cs := by
  rcases h with h | ⟨g, cap, rfl, h1, h2, h3, h4, h5, h6⟩
  · exact .inl h
  · exact .inr ⟨g, cap, rfl, h1, h2, h3, rangeAt_heap h4 (hb g rfl), there_heap h5 (hb g rfl), by omega⟩
theorem Own.below {w w' : World} {base B : Nat} {v : Value} {cs : List Value} (h : Own w base v cs) (hb : Below B w w') (hB : w.heap.size ≤ B) : Own w' base v cs := by
  refine h.kept hb.size fun g hg => hb.block g ?_
  rcases h with ⟨rfl, _⟩ | ⟨g', cap, rfl, h1, h2, h3, h4, h5, h6⟩
  · cases hg
  · cases hg; show g' < B; omega
theorem Own.alloc {w : World} {base : Nat} {v : Value} {cs : List Value} (h : Own w base v cs) (o : Obj) : Own (w.alloc o) base v cs :=
  h.below (B := w.heap.size) ((Below.refl _ _).alloc (Nat.le_refl _) _) (Nat.le_refl _)
theorem Own.drew {w : World} {base : Nat} {v : Value} {cs : List Value} (h : Own w base v cs) : Own w.drew base v cs := h
theorem Own.drewN {w : World} {base : Nat} {v : Value} {cs : List Value} (h : Own w base v cs) (n : Nat) : Own (w.drewN n) base v cs := h
theorem Own.but {w w' : World} {base b : Nat} {v : Value} {cs : List Value} (h : Own w base v cs) (hb : But b w w') (hne : v.ownBlock ≠ some b) : Own w' base v cs := by
  refine h.kept hb.size fun g hg => hb.block g ?_ (fun e => hne (by rw [hg, e]))
  rcases h with ⟨rfl, _⟩ | ⟨g', cap, rfl, h1, h2, h3, h4, h5, h6⟩
  · cases hg
  · cases hg; exact h6
theorem Own.mono {w : World} {base base' : Nat} {v : Value} {cs : List Value} (h : Own w base v cs) (hb : base' ≤ base) : Own w base' v cs := by
  rcases h with h | ⟨g, cap, rfl, h1, h⟩
  · exact .inl h
  · exact .inr ⟨g, cap, rfl, by omega, h⟩
theorem Own.ge {w : World} {base : Nat} {v : Value} {cs : List Value} (h : Own w base v cs) : ∀ k, v.ownBlock = some k → base ≤ k := by
  rcases h with ⟨rfl, _⟩ | ⟨g, cap, rfl, h1, _⟩
  · intro k hk; cases hk
  · intro k hk; cases hk; exact h1

/-- APPEND onto what is owned, from whatever source. -/
theorem run_append_O {P : Program} (w : World) (base : Nat) (t tx ty e : TypeId) (i : TypeInfo) (z : Value) (ht : P.underlying t = some (.slice e)) (hi : P.info? e = some i) (hz : i.zero = some z)
    (hsize : i.size = 1) (hzs : z.cells.size = 1) (v : Value) (cs : List Value) (hown : Own w base v cs) (x : Value) (n : Nat) (news : List Value) (hs : Src P 1 tx x n news w)
    (hbytes : (cs.length + n) * i.bytes ≤ 140737488355328) (h63 : cs.length + n ≤ maxLen) (hbase : base ≤ w.heap.size) (hpos : v = .slice none 0 0 → 0 < n) :
    ∃ v' w', (Builtin.append_ #[t, tx] ty #[v, x]).run P w = .ok v' w' ∧ Own w' base v' (cs ++ news) ∧ w.grownBy w' v.ownBlock ∧ (v'.ownBlock = v.ownBlock ∨ v'.ownBlock = some w.heap.size) := by
  have hn : news.length = n := by simpa using hs.newsLen
  have h63' : cs.length + n ≤ 9223372036854775807 := by simp only [maxLen] at h63; omega
  -- the arm that grows
  have grow : ∀ (b : Option Addr) (old : Nat), old < cs.length + n → v = .slice b cs.length old → (Builtin.firstCells 1 cs.length (.slice b cs.length old)).run P w.drew = .ok cs.toArray w.drew →
      ∃ v' w', (Builtin.append_ #[t, tx] ty #[v, x]).run P w = .ok v' w' ∧ Own w' base v' (cs ++ news) ∧ w.grownBy w' v.ownBlock ∧ (v'.ownBlock = v.ownBlock ∨ v'.ownBlock = some w.heap.size) := by
    intro b old ho hv hold
    have hr := run_append_grow_src (P := P) w t tx ty e i z ht hi hz b cs.length old cs (by rw [hsize]; exact hold) x n news (by rw [hsize]; exact hs) ho (by omega) (growslice_fits ho hbytes)
    have hge := grownCap_ge w (cs.length + n) old e
    have hcm : grownCap w (cs.length + n) old e ≤ maxLen := grownCap_le_maxLen w (cs.length + n) old e h63
    have hnew : (w.drew.alloc (.cells ((cs ++ news).toArray ++ Builtin.zeroCells z.cells (grownCap w (cs.length + n) old e - (cs.length + n))) e)).heap[w.heap.size]? = some (.cells ((cs ++ news).toArray ++ Builtin.zeroCells z.cells (grownCap w (cs.length + n) old e - (cs.length + n))) e (0, 0)) := heap_alloc_new w.drew _
    refine ⟨.slice (some ⟨w.heap.size, 0, none⟩) (cs.length + n) (grownCap w (cs.length + n) old e), w.drew.alloc (.cells ((cs ++ news).toArray ++ Builtin.zeroCells z.cells (grownCap w (cs.length + n) old e - (cs.length + n))) e), by rw [hv]; exact hr, .inr ⟨w.heap.size, grownCap w (cs.length + n) old e, by rw [List.length_append, hn], hbase, by rw [List.length_append, hn]; exact hge, hcm, ?_, ?_, ?_⟩, ⟨rfl, rfl, rfl, by rw [size_alloc]; exact Nat.le_succ w.heap.size, fun k hk _ => Below.heap_alloc w.drew _ k hk⟩, .inr rfl⟩
    · intro j u hj
      rw [cell_of_row _ _ _ _ _ _ hnew, Nat.zero_add]
      have hj' : j < (cs ++ news).length := (List.getElem?_eq_some_iff.1 hj).1
      rw [Array.getElem?_append_left (by simpa using hj')]
      simpa using hj
    · refine there_of_row hnew 0 _ ?_
      simp only [Array.size_append, List.size_toArray, size_zeroCells, hzs, List.length_append, hn]
      omega
    · rw [size_alloc]; exact Nat.lt_succ_self _
  rcases hown with ⟨rfl, rfl⟩ | ⟨g, cap, rfl, h1, h2, h3, h4, h5, h6⟩
  · exact grow none 0 (by have := hpos rfl; simp; omega) rfl (run_firstCells_none w.drew 1 0 0 0)
  · by_cases hroom : cs.length + n ≤ cap
    · have hr := run_append_room_src (P := P) w t tx ty e i ht hi g 0 cs.length cap x n news (by rw [hsize]; exact hs) hroom
        (fun j hj => by rw [hsize, Nat.mul_one]; exact by have := (h5 (cs.length + j) (by omega)).1; simpa [Nat.add_assoc] using this)
        (fun j hj => by rw [hsize, Nat.mul_one]; exact by have := (h5 (cs.length + j) (by omega)).2; simpa [Nat.add_assoc] using this)
      rw [hsize, Nat.mul_one, Nat.zero_add] at hr
      have ht' : w.there g cs.length news.length := fun j hj => by have := h5 (cs.length + j) (by omega); simpa using this
      refine ⟨_, _, hr, .inr ⟨g, cap, by rw [List.length_append, hn], h1, by rw [List.length_append, hn]; exact hroom, h3, ?_, World.there_setCells h5 _ _ _, ?_⟩, ?_, .inl rfl⟩
      · intro j u hj
        by_cases hjl : j < cs.length
        · rw [List.getElem?_append_left hjl] at hj
          exact World.rangeAt_setCells_apart h4 g cs.length news (.inr (.inl (by omega))) j u hj
        · rw [List.getElem?_append_right (by omega)] at hj
          have := World.rangeAt_setCells_same w g cs.length news ht' (j - cs.length) u hj
          rwa [show cs.length + (j - cs.length) = 0 + j from by omega] at this
      · have := (But.setCells news cs.length (But.refl g w)).size; omega
      · have hb := But.setCells news cs.length (But.refl g w)
        exact ⟨hb.os, hb.tape, hb.output, hb.size, fun k hk hne => hb.block k hk (fun e => hne (by rw [e]; rfl))⟩
    · refine grow (some ⟨g, 0, none⟩) cap (by omega) rfl ?_
      exact run_firstCells_some w.drew 1 cs.length ⟨g, 0, none⟩ cs.length cap cs (by simp) (fun j u hj => by rw [Addr.add_mid]; exact h4 j u hj)
end Go.Proofs.YtdbbemcddhgbcaaGreatDoor

namespace Go.Proofs.YtdbbemcddhgbcaaGreatDoor
open Go.RowKit

theorem info5' : (Tryz.prog.info? 5).map (fun i => (i.zero, i.size, i.bytes)) = some (some (.int .u8 0), 1, 1) := by kernel_rfl
/-- bytes that lie in a row of the call's own -/
abbrev OwnB (w : World) (base : Nat) (v : Value) (bs : List UInt8) : Prop := Own w base v (bv bs)

theorem Own.shape {w : World} {base : Nat} {v : Value} {cs : List Value} (h : Own w base v cs) : ∃ a cap, v = .slice a cs.length cap := by
  rcases h with ⟨rfl, rfl⟩ | ⟨g, cap, rfl, _⟩
  · exact ⟨none, 0, rfl⟩
  · exact ⟨some ⟨g, 0, none⟩, cap, rfl⟩

/-- append of new bytes that lie in a block of their own ('append(out, x, y)') -/
theorem append_new (w : World) (base : Nat) (v : Value) (bs ns : List UInt8) (m : Nat) (C : Array Value) (hC : C = (bv ns).toArray) (hm : ns.length = m) (hown : OwnB w base v bs)
    (hlen : bs.length + m ≤ 140737488355328) (hbase : base ≤ w.heap.size) (hpos : 0 < m) :
    ∃ v' w', (Builtin.append_ #[43, 43] 43 #[v, .slice (some ⟨w.heap.size, 0, none⟩) m m]).run Tryz.prog (w.alloc (.cells C 5)) = .ok v' w' ∧ OwnB w' base v' (bs ++ ns) ∧
      w.grownBy w' v.ownBlock ∧ (v'.ownBlock = v.ownBlock ∨ v'.ownBlock = some (w.heap.size + 1)) := by
  subst hC
  obtain ⟨i0, hi, hz0, hz1, hz2⟩ := info_parts info5'
  have hsrc : Src Tryz.prog 1 43 (.slice (some ⟨w.heap.size, 0, none⟩) m m) m (bv ns) (w.alloc (.cells (bv ns).toArray 5)) :=
    Src.ofSlice _ Tryz.underlying43 ⟨w.heap.size, 0, none⟩ m m (bv ns) (by simp [hm]) (fun j u hj => by
      rw [Addr.add_mid, cell_of_row _ _ _ _ _ _ (heap_alloc_new w _), Nat.zero_add]; simpa using hj) (fun u hu => bv_mem hu)
  obtain ⟨v', w', h1, h2, h3, h4⟩ := run_append_O (P := Tryz.prog) (w.alloc (.cells (bv ns).toArray 5)) base 43 43 43 5 i0 (.int .u8 0) Tryz.underlying43 hi hz0 hz1 rfl v (bv bs) (hown.alloc _) _ m (bv ns) hsrc
    (by rw [bv_length, hz2]; omega) (by rw [bv_length, maxLen]; omega) (by rw [size_alloc]; omega) (fun _ => hpos)
  refine ⟨v', w', h1, by rw [OwnB, bv_append]; exact h2, ⟨h3.os, h3.tape, h3.output, by have := h3.size; rw [size_alloc] at this; omega, fun k hk hne => (h3.block k (by rw [size_alloc]; omega) hne).trans (Below.heap_alloc w _ k hk)⟩, by rw [size_alloc] at h4; exact h4⟩
/-- append of a string's bytes ('append(out, s...)') -/
theorem append_str (w : World) (base : Nat) (v : Value) (bs : List UInt8) (s : ByteArray) (hown : OwnB w base v bs)
    (hlen : bs.length + s.size ≤ 140737488355328) (hbase : base ≤ w.heap.size) (hpos : v = .slice none 0 0 → 0 < s.size) :
    ∃ v' w', (Builtin.append_ #[43, 9] 43 #[v, .string s]).run Tryz.prog w = .ok v' w' ∧ OwnB w' base v' (bs ++ s.data.toList) ∧
      w.grownBy w' v.ownBlock ∧ (v'.ownBlock = v.ownBlock ∨ v'.ownBlock = some w.heap.size) := by
  obtain ⟨i0, hi, hz0, hz1, hz2⟩ := info_parts info5'
  obtain ⟨v', w', h1, h2, h3, h4⟩ := run_append_O (P := Tryz.prog) w base 43 9 43 5 i0 (.int .u8 0) Tryz.underlying43 hi hz0 hz1 rfl v (bv bs) hown _ s.size (byteCells s) (Src.ofString w Tryz.underlying9 s)
    (by rw [bv_length, hz2]; omega) (by rw [bv_length, maxLen]; omega) hbase hpos
  exact ⟨v', w', h1, by rw [OwnB, bv_append]; exact h2, h3, h4⟩
theorem Below.ofGrown {w w' : World} {v : Value} {base : Nat} (h : w.grownBy w' v.ownBlock) (hv : ∀ k, v.ownBlock = some k → base ≤ k) (hb : base ≤ w.heap.size) : Below base w w' :=
  (Below.refl base w).grown h hb hv

/-- s + t -/
theorem add_sv (P : Program) (t : TypeId) (a b : List UInt8) (h : a.length + b.length ≤ 9223372036854775807) (w : World) : (binOp .add t (sv a) (sv b)).run P w = .ok (sv (a ++ b)) w := by
  rw [sv, sv, binOp_string_add, run_string_add_sum w _ _ (by rw [sv_size, sv_size]; exact h), ByteArray.mk_append_mk]
  rfl
/-- []byte(s) -/
theorem conv_bytes (w : World) (s : ByteArray) (hs : s.size ≤ maxLen) :
    ∃ v' w', (convert 9 43 (.string s)).run Tryz.prog w = .ok v' w' ∧ OwnB w' w.heap.size v' s.data.toList ∧ Below w.heap.size w w' := by
  refine ⟨_, _, Lib.run_convert_string_bytes (P := Tryz.prog) w 9 43 5 s Tryz.underlying9 Tryz.underlying43 Tryz.underlying5, .inr ⟨w.heap.size, _, by rw [bv_length, data_length], Nat.le_refl _, ?_, ?_, ?_, ?_, ?_⟩, ?_⟩
  · rw [bv_length, data_length]; exact grownCap_ge w s.size 0 _
  · exact grownCap_le_maxLen w s.size 0 _ hs
  · intro j u hj
    have hj' : j < s.size := by have := (List.getElem?_eq_some_iff.1 hj).1; rwa [bv_length, data_length] at this
    rw [Nat.zero_add, Lib.bytesWorld_cell w _ s j hj', ← hj]
    have hd : j < s.data.toList.length := by rw [data_length]; exact hj'
    simp only [bv, List.getElem?_map, List.getD_eq_getElem?_getD, List.getElem?_eq_getElem hd, Option.getD_some, Option.map_some]
  · intro j hj
    have hn := Lib.bytesWorld_at_new w 5 s
    have hsz : (Lib.bytesCells w 5 s).size = grownCap w s.size 0 5 := by
      have := grownCap_ge w s.size 0 5
      have e : s.data.size = s.size := rfl
      simp only [Lib.bytesCells, Array.size_append, Array.size_map, Array.size_replicate]
      omega
    refine ⟨?_, ?_⟩
    · rw [Nat.zero_add, cell_of_row _ _ _ _ _ _ hn, Array.getElem?_eq_getElem (by omega)]; rfl
    · simp only [World.frozen?, hn, Nat.zero_add]
      simp; omega
  · rw [Lib.bytesWorld_size]; omega
  · exact ⟨rfl, rfl, rfl, by rw [Lib.bytesWorld_size]; omega, fun k hk => Lib.bytesWorld_at_old w _ s k hk⟩
/-- string(b) of what is owned -/
theorem conv_own {w : World} {base : Nat} {v : Value} {bs : List UInt8} (h : OwnB w base v bs) (hpos : v ≠ .slice none 0 0) : (convert 43 9 v).run Tryz.prog w = .ok (sv bs) w := by
  rcases h with ⟨rfl, _⟩ | ⟨g, cap, rfl, _, _, _, h4, _⟩
  · exact absurd rfl hpos
  · exact run_conv_bytes (P := Tryz.prog) w 43 9 5 g 0 (bv bs).length cap bs (by rw [bv_length]) Tryz.underlying43 Tryz.underlying5 Tryz.underlying9 h4
end Go.Proofs.YtdbbemcddhgbcaaGreatDoor

/- Layer 22: errors.Is at the layer's faults -/
namespace Go.Proofs.YtdbbemcddhgbcaaGreatDoor
open Go.RowKit Go.Shelf Go.Extern
namespace Nt
/-- a sentinel -/
def EV (a : Addr) : Value := .iface 242 (.pointer (some a))
/-- a pointer's block is an object of cells -/
def Ob (w : World) (a : Addr) : Prop := ∃ c t, w.heap[a.block]? = some (.cells c t (0, 0))
theorem Ob.lt {w : World} {a : Addr} (h : Ob w a) : a.block < w.heap.size := by
  obtain ⟨c, t, h⟩ := h
  exact lt_of_heap h
theorem Ob.below {w w' : World} {a : Addr} (h : Ob w a) (hb : Below w.heap.size w w') : Ob w' a := by
  obtain ⟨c, t, h⟩ := h
  exact ⟨c, t, (hb.block _ (lt_of_heap h)).trans h⟩
/-- a fault -/
def FV (t : ByteArray) (e : Value) : Value := .iface 81 (.agg #[.string t, e])
theorem etypeOf (v : Value) (w : World) : (ReflectliteType.typeOf #[.iface 242 v]).run Tryz.prog w = .ok (.iface 128 (.agg #[.pointer (some ⟨13, 242, none⟩)])) w := by kernel_rfl
theorem emethodComparable (h : Value) (w : World) : (Go.method 386 128 (.agg #[h]) "Comparable").run Tryz.prog w = .ok (234, .agg #[h]) w := by kernel_rfl
theorem ecomparable (w : World) : (ReflectliteType.method (fun t => do Rtype.noPackHeld "Comparable" t; (fun a => Value.bool a.comparable) <$> typeInfo t) #[.agg #[.pointer (some ⟨13, 242, none⟩)]]).run Tryz.prog w = .ok (.bool true) w := by kernel_rfl
theorem emethodUnwrap (s : ByteArray) (v : Value) (w : World) : (Go.method 386 81 (.agg #[.string s, v]) "Unwrap").run Tryz.prog w = .ok (228, .agg #[.string s, v]) w := by kernel_rfl
theorem unwrap_any (s : ByteArray) (e : Value) (w : World) : Calls Tryz.prog 228 #[.agg #[.string s, e]] w fun r w' => r = .returned e ∧ Below w.heap.size w w' := by
  go_enter Tryz.func228, Tryz.ntmps228
  go_wp2
  go_ret
  exact ⟨rfl, (Below.refl _ _).alloc (Nat.le_refl _) _⟩
theorem infoES : (Tryz.prog.info? 242).map (fun i => i.comparable) = some true := by kernel_rfl
theorem infoE : (Tryz.prog.info? 244).map (fun i => decide (i.size ≠ 0)) = some true := by kernel_rfl
theorem eq_same (a : Addr) (w : World) : (binOp .eql 62 (EV a) (EV a)).run Tryz.prog w = .ok (.bool true) w := by
  obtain ⟨i, hi, hc⟩ := Option.map_eq_some_iff.1 infoES
  obtain ⟨j, hj, _⟩ := Option.map_eq_some_iff.1 infoE
  exact run_eql_iface_ptr_same w a Tryz.underlying62 Tryz.underlying242 hi hc hj
theorem eq_other {a b : Addr} {w : World} (hne : a ≠ b) (ha : Ob w a) (hb : Ob w b) : (binOp .eql 62 (EV a) (EV b)).run Tryz.prog w = .ok (.bool false) w := by
  obtain ⟨i, hi, hc⟩ := Option.map_eq_some_iff.1 infoES
  obtain ⟨j, hj, hs⟩ := Option.map_eq_some_iff.1 infoE
  obtain ⟨c1, t1, h1⟩ := ha
  obtain ⟨c2, t2, h2⟩ := hb
  exact run_eql_iface_ptr_other w Tryz.underlying62 Tryz.underlying242 hi hc hj (of_decide_eq_true hs) hne h1 h2
theorem eq_fault (s : ByteArray) (v : Value) (b : Addr) (w : World) : (binOp .eql 62 (FV s v) (EV b)).run Tryz.prog w = .ok (.bool false) w :=
  run_eql_iface_types _ _ _ _ Tryz.underlying62 (by decide) w
theorem no_is (v : Value) (xT : TypeId) (w : World) : (Instr.typeAssert (.iface 81 v) xT 130 true).run Tryz.prog w = .ok (.tuple #[.nilIface, .bool false]) w :=
  run_typeAssert_lacksB Tryz.underlying130 (by kernel_rfl) (by kernel_rfl) v xT w
theorem has_unwrap (v : Value) (xT : TypeId) (w : World) : (Instr.typeAssert (.iface 81 v) xT 133 true).run Tryz.prog w = .ok (.tuple #[.iface 81 v, .bool true]) w :=
  run_typeAssert_hasB Tryz.underlying133 (by kernel_rfl) v xT w
theorem no_isE (v : Value) (xT : TypeId) (w : World) : (Instr.typeAssert (.iface 242 v) xT 130 true).run Tryz.prog w = .ok (.tuple #[.nilIface, .bool false]) w :=
  run_typeAssert_lacksB Tryz.underlying130 (by kernel_rfl) (by kernel_rfl) v xT w
theorem no_unwrapE (v : Value) (xT : TypeId) (w : World) : (Instr.typeAssert (.iface 242 v) xT 133 true).run Tryz.prog w = .ok (.tuple #[.nilIface, .bool false]) w :=
  run_typeAssert_lacksB Tryz.underlying133 (by kernel_rfl) (by kernel_rfl) v xT w
theorem no_unwrapsE (v : Value) (xT : TypeId) (w : World) : (Instr.typeAssert (.iface 242 v) xT 135 true).run Tryz.prog w = .ok (.tuple #[.nilIface, .bool false]) w :=
  run_typeAssert_lacksB Tryz.underlying135 (by kernel_rfl) (by kernel_rfl) v xT w
set_option maxRecDepth 100000 in
set_option maxHeartbeats 4000000 in
theorem is_one (s : ByteArray) (a b : Addr) (w : World) (ha : Ob w a) (hb : Ob w b) : Calls Tryz.prog 51 #[FV s (EV a), EV b] w fun r w' => r = .returned (.bool (decide (a = b))) ∧ Below w.heap.size w w' := by
  have h10 := @run_callFunc_extern Tryz.prog 71 _ ReflectliteType.typeOf Tryz.func71 (by kernel_rfl) (by kernel_rfl) (by kernel_rfl) (by kernel_rfl)
  have h11 := @run_callFunc_extern Tryz.prog 234 _ (ReflectliteType.method fun t => do Rtype.noPackHeld "Comparable" t; (fun a => Value.bool a.comparable) <$> typeInfo t) Tryz.func234 (by kernel_rfl) (by kernel_rfl) (by kernel_rfl) (by kernel_rfl)
  have tO := etypeOf
  have mC := emethodComparable
  have cC := ecomparable
  have mU := emethodUnwrap
  have iU := fun w' => unwrap_any s (EV a) w'
  have q1 := eq_fault s (EV a) b
  have q2 := no_is
  have q3 := has_unwrap
  have q4 := no_isE
  have q5 := no_unwrapE
  have q6 := no_unwrapsE
  by_cases hab : a = b
  · subst hab
    have q7 := eq_same a
    have e : decide (a = a) = true := by simp
    rw [e]
    unfold EV FV at *
    clear ha hb e
    go_enter Tryz.func51, Tryz.ntmps51
    go_wp2_with (first | (go_at_call 228; fail) | go_in)
    refine wp_loop_rounds 2 ?_
    rw [rounds_succ]
    go_wp2_with (first | (go_at_call 228; (refine (iU _).mono ?_); rintro r w1 ⟨rfl, b1⟩) | go_in)
    rw [rounds_succ]
    go_wp2
    go_ret
    exact ⟨rfl, b1⟩
  · have e : decide (a = b) = false := decide_eq_false hab
    rw [e]
    have q7 := fun w' (h : Below w.heap.size w w') => eq_other hab (ha.below h) (hb.below h)
    unfold EV FV at *
    clear ha hb e
    go_enter Tryz.func51, Tryz.ntmps51
    go_wp2_with (first | (go_at_call 228; fail) | go_in)
    refine wp_loop_rounds 2 ?_
    rw [rounds_succ]
    go_wp2_with (first | (go_at_call 228; (refine (iU _).mono ?_); rintro r w1 ⟨rfl, b1⟩) | go_in)
    have q8 := q7 _ b1
    clear q7
    rw [rounds_succ]
    go_wp2
    go_ret
    exact ⟨rfl, b1⟩
end Nt
end Go.Proofs.YtdbbemcddhgbcaaGreatDoor
