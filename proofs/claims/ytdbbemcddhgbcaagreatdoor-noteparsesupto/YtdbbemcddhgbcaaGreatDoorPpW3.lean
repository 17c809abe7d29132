import Derived.Test.YtdbbemcddhgbcaaGreatDoorPpM1
import Derived.Lib.BufferWrite
import Derived.Lib.SlBuf
namespace Go.Proofs.YtdbbemcddhgbcaaGreatDoor
open Go.RowKit

/-- the two tables of constants -/
structure Tabs (w : World) : Prop where
  rounds : ∀ j, j < 64 → w.cell? ⟨11, j, none⟩ = some (.int .u32 ((Sha.kTab.getD j 0 : Nat) : Int))
  start : ∀ j, j < 8 → w.cell? ⟨12, j, none⟩ = some (.int .u32 ((Sha.iv.l.getD j 0 : Nat) : Int))
theorem Tabs.lt {w : World} (h : Tabs w) : 13 ≤ w.heap.size := by
  have a := block_lt_of_cell (h.rounds 0 (by omega))
  have b := block_lt_of_cell (h.start 0 (by omega))
  simp at a b; omega
theorem Tabs.below {w w' : World} {B : Nat} (h : Tabs w) (hb : Below B w w') (hB : 13 ≤ B) : Tabs w' :=
  ⟨fun j hj => (hb.cell (p := ⟨11, j, none⟩) (Nat.lt_of_lt_of_le (by simp) hB)).trans (h.rounds j hj), fun j hj => (hb.cell (p := ⟨12, j, none⟩) (Nat.lt_of_lt_of_le (by simp) hB)).trans (h.start j hj)
  ⟩

theorem info64b : (Tryz.prog.info? 207).map (·.size) = some 64 := by kernel_rfl
theorem info8w : (Tryz.prog.info? 206).map (·.size) = some 8 := by kernel_rfl

structure FoldInv (s : Sha.St) (bl : List UInt8) (w : World) (M : Nat) (w' : World) : Prop where
  b0 : w'.heap[w.heap.size]? = some (.cells (wv s.l).toArray 206 (0, 0))
  b2 : ∃ C : Array Value, C.size = 8 ∧ w'.heap[w.heap.size + 1 + 1]? = some (.cells C 206 (0, 0))
  bM : w'.heap[M]? = some (.cells (wv (Sha.sched bl 64)).toArray 253 (0, 0))
  lt : w.heap.size + 3 ≤ M
  below : Below w.heap.size w w'
theorem foldInv_start (s : Sha.St) (bl : List UInt8) (w w1 : World) (B C Z : Array Value) (tB : TypeId) (hC : C.size = 8)
    (h : Below (((w.alloc (.cells (wv s.l).toArray 206)).alloc (.cells B tB)).alloc (.cells C 206)).heap.size (((w.alloc (.cells (wv s.l).toArray 206)).alloc (.cells B tB)).alloc (.cells C 206)) w1) :
    FoldInv s bl w w1.heap.size ((w1.alloc (.cells Z 253)).setRow w1.heap.size (wv (Sha.sched bl 64)).toArray) := by
  obtain ⟨h0, _, h2, h3⟩ := alloc3 w (.cells (wv s.l).toArray 206) (.cells B tB) (.cells C 206)
  have hs : w.heap.size + 3 ≤ w1.heap.size := by have := h.size; omega
  refine ⟨?_, ⟨C, hC, ?_⟩, setRow_heap _ _ _ _ _ _ (heap_alloc_new w1 _), hs, ?_⟩
  · rw [setRow_other _ _ _ _ (by omega), Below.heap_alloc _ _ _ (by omega), h.block _ (by omega)]; exact h0
  · rw [setRow_other _ _ _ _ (by omega), Below.heap_alloc _ _ _ (by omega), h.block _ (by omega)]; exact h2
  · exact Below.setRow (((below_alloc3 w _ _ _).trans (h.mono (by omega))).alloc (by omega) _) (by omega) _

theorem wv_size64 (bl : List UInt8) : (wv (Sha.sched bl 64)).toArray.size = 64 := by simp [wv, Sha.sched_length]

set_option maxRecDepth 100000 in
set_option maxHeartbeats 400000 in
theorem fold_any (s : Sha.St) (hs : s.ok) (bl : List UInt8) (hb : bl.length = 64) (w : World) (T : Tabs w) :
    Calls Tryz.prog 193 #[.agg (wv s.l).toArray, .agg (bv bl).toArray] w fun e w' => e = .returned (.agg (wv (Sha.fold s bl).l).toArray) ∧ Below w.heap.size w w' := by
  have hsz : (Tryz.prog.info? 207).map (·.size) = some (bv bl).toArray.size := by rw [info64b]; simp [bv, hb]
  have hsw : (Tryz.prog.info? 253).map (·.size) = some (wv (Sha.sched bl 64)).toArray.size := by rw [info64w]; simp [wv, Sha.sched_length]
  have Hsz : Hid _ := hsz
  have Hsw : Hid _ := hsw
  clear hsz hsw
  go_enter Tryz.func193, Tryz.ntmps193
  go_wp2_with (with_reducible show wpList _ _ _ (Oper.mk _ (Op.load _ _) _ _ _ _ :: _) _ _; refine wpList_load_row rfl 207 _ rfl (w.heap.size + 1) rfl 207 _ (0, 0) _ (alloc3 w _ _ _).2.1 Tryz.underlying207 rfl Hsz.out ?_)
  refine (schedule_any bl hb _).mono ?_; rintro e w1 ⟨rfl, hb1⟩
  go_wp2_with (with_reducible show wpList _ _ _ (Oper.mk _ (Op.store _ _ _) _ _ _ _ :: _) _ _; go_must (refine wpList_store_row rfl 253 _ _ rfl w1.heap.size _ rfl rfl 253 _ (heap_alloc_new w1 _) Hsw.out (by rw [wv_size64 bl]; decide +kernel) (wv_one _) ?_))
  have inv := foldInv_start s bl w w1 _ _ (wv (List.replicate 64 0)).toArray _ rfl hb1
  generalize hW2 : (w1.alloc _).setRow w1.heap.size (wv (Sha.sched bl 64)).toArray = w2
  replace inv : FoldInv s bl w w1.heap.size w2 := hW2 ▸ inv
  generalize w1.heap.size = M at *
  clear hW2 hb1
  have T2 := T.below inv.below T.lt
  have z0 := wv_cell inv.b0 0 (by simp [Sha.St.l])
  have z1 := wv_cell inv.b0 1 (by simp [Sha.St.l])
  have z2 := wv_cell inv.b0 2 (by simp [Sha.St.l])
  have z3 := wv_cell inv.b0 3 (by simp [Sha.St.l])
  have z4 := wv_cell inv.b0 4 (by simp [Sha.St.l])
  have z5 := wv_cell inv.b0 5 (by simp [Sha.St.l])
  have z6 := wv_cell inv.b0 6 (by simp [Sha.St.l])
  have z7 := wv_cell inv.b0 7 (by simp [Sha.St.l])
  simp only [Sha.St.l, List.getD_cons_zero, List.getD_cons_succ] at z0 z1 z2 z3 z4 z5 z6 z7
  go_quiet (fail)
  go_wp2
  go_quiet (fail)
  go_wp2
  go_loopw [6, 7, 8, 9, 10, 11, 12, 13, 37] (fun va vb vc vd ve vf vg vh i w' => ∃ (k : Nat) (v : Sha.St), k ≤ 64 ∧ i = .int .i64 k ∧ Hid (v = Sha.rnds (Sha.sched bl 64) s k) ∧ v.ok ∧ va = .int .u32 v.a ∧ vb = .int .u32 v.b ∧ vc = .int .u32 v.c ∧ vd = .int .u32 v.d ∧ ve = .int .u32 v.e ∧ vf = .int .u32 v.f ∧ vg = .int .u32 v.g ∧ vh = .int .u32 v.h ∧ FoldInv s bl w M w') (fun _ _ _ _ _ _ _ _ i _ => 64 - (intOf i).toNat)
  case atStart => exact ⟨0, s, by omega, rfl, rfl, hs, rfl, rfl, rfl, rfl, rfl, rfl, rfl, rfl, inv.b0, inv.b2, inv.bM, inv.lt, below_drewN (below_drewN inv.below _) _⟩
  case round =>
    clear T2 z0 z1 z2 z3 z4 z5 z6 z7 inv
    obtain ⟨k, ⟨a, b, c, d, e, f, g, h⟩, hk, rfl, hv, ⟨va, vb, vc, vd, ve, vf, vg, vh⟩, rfl, rfl, rfl, rfl, rfl, rfl, rfl, rfl, inv⟩ := hrel
    dsimp only at va vb vc vd ve vf vg vh ⊢
    by_cases hlt : k < 64
    · have b3 : (k : Int) < 64 := by omega
      obtain ⟨kk, ek, lk, ck⟩ : ∃ y : Nat, Hid (y = Sha.kTab.getD k 0) ∧ y < 4294967296 ∧ wr.cell? ⟨11, k, none⟩ = some (.int .u32 (y : Int)) := ⟨_, rfl, Sha.kTab_getD_lt k, (T.below inv.below T.lt).rounds k hlt⟩
      obtain ⟨ww, ew, lw, cw⟩ : ∃ y : Nat, Hid (y = (Sha.sched bl 64).getD k 0) ∧ y < 4294967296 ∧ wr.cell? ⟨M, k, none⟩ = some (.int .u32 (y : Int)) := ⟨_, rfl, Sha.sched_getD_lt bl 64 k, wv_cell inv.bM k (by rw [Sha.sched_length]; exact hlt)⟩
      have hS1 := Sha.S1_walk e ve
      have hS0 := Sha.S0_walk a va
      have hch := Sha.ch_walk e f g ve vf vg
      have hmaj := Sha.maj_walk a b c va vb vc
      go_wp2_with (go_at_call 210; refine (ror_any _ _ (by assumption) (by omega) (by omega) _).mono ?_; rintro e w' ⟨rfl, rfl⟩)
      go_quiet (fail)
      go_wp2_with (go_at_call 210; refine (ror_any _ _ (by assumption) (by omega) (by omega) _).mono ?_; rintro e w' ⟨rfl, rfl⟩)
      refine ⟨⟨k + 1, Sha.step kk ww ⟨a, b, c, d, e, f, g, h⟩, by omega, by go_num, ?_, Sha.step_ok _ _ _ ⟨va, vb, vc, vd, ve, vf, vg, vh⟩, val_int (Sha.stepA_walk kk ww a b c d e f g h), rfl, rfl, rfl, val_int (Sha.stepE_walk kk ww a b c d e f g h), rfl, rfl, rfl, ⟨inv.b0, inv.b2, inv.bM, inv.lt, below_drewN inv.below _⟩⟩, by simp [intOf]; omega⟩
      show Sha.step kk ww ⟨a, b, c, d, e, f, g, h⟩ = Sha.step (Sha.kTab.getD k 0) ((Sha.sched bl 64).getD k 0) (Sha.rnds (Sha.sched bl 64) s k)
      rw [← hv.out, ← ek.out, ← ew.out]
    · obtain rfl : k = 64 := by omega
      have T2 := T.below inv.below T.lt
      have z0 := wv_cell inv.b0 0 (by simp [Sha.St.l])
      have z1 := wv_cell inv.b0 1 (by simp [Sha.St.l])
      have z2 := wv_cell inv.b0 2 (by simp [Sha.St.l])
      have z3 := wv_cell inv.b0 3 (by simp [Sha.St.l])
      have z4 := wv_cell inv.b0 4 (by simp [Sha.St.l])
      have z5 := wv_cell inv.b0 5 (by simp [Sha.St.l])
      have z6 := wv_cell inv.b0 6 (by simp [Sha.St.l])
      have z7 := wv_cell inv.b0 7 (by simp [Sha.St.l])
      simp only [Sha.St.l, List.getD_cons_zero, List.getD_cons_succ] at z0 z1 z2 z3 z4 z5 z6 z7
      obtain ⟨C, hC, hb2⟩ := inv.b2
      go_wp2_with (with_reducible show wpList _ _ _ (Oper.mk _ (Op.store _ _ _) _ _ _ _ :: _) _ _; go_must (refine wpList_store_row rfl 206 _ _ rfl (w.heap.size + 1 + 1) _ rfl rfl 206 C hb2 (by rw [info8w]; simp) (by rw [hC]; simp) (by simp [Value.oneCell']) ?_))
      have hf : Sha.addSt s ⟨a, b, c, d, e, f, g, h⟩ = Sha.fold s bl := by rw [hv.out]; rfl
      rw [addSt_walk, hf]
      refine bodyPost_ret (v := .agg (wv (Sha.fold s bl).l).toArray) (results_cell_row rfl _ _ (w.heap.size + 1 + 1) 206 _ (0, 0) _ rfl (setRow_heap _ _ C _ _ _ hb2) Tryz.underlying206 rfl info8w) rfl ⟨rfl, ?_⟩
      exact Below.setRow inv.below (by omega) _
end Go.Proofs.YtdbbemcddhgbcaaGreatDoor

/- THE PLAIN MATHEMATICS OF A HASHER: what it holds behind some bytes. -/
namespace Go.Proofs.YtdbbemcddhgbcaaGreatDoor.Sha

theorem foldAll_last : ∀ (k : Nat) (s : St) (l : List UInt8), foldAll s (k + 1) l = fold (foldAll s k l) ((l.drop (64 * k)).take 64)
  | 0, s, l => by simp [foldAll]
  | k + 1, s, l => by
    rw [foldAll, foldAll_last k, foldAll, List.drop_drop]
    congr 3
    omega
theorem foldAll_append : ∀ (k : Nat) (s : St) (l u : List UInt8), 64 * k ≤ l.length → foldAll s k (l ++ u) = foldAll s k l
  | 0, _, _, _, _ => rfl
  | k + 1, s, l, u, h => by
    rw [foldAll, foldAll, List.take_append_of_le_length (by omega), List.drop_append_of_le_length (by omega), foldAll_append k _ _ _ (by simp; omega)]

/-- what a hasher's fields are behind the bytes t -/
structure HS (t : List UInt8) (st : St) (rest : List UInt8) : Prop where
  ok : st.ok
  len : rest.length = 64
  tail : rest.take (t.length % 64) = t.drop (64 * (t.length / 64))
  state : 64 ≤ t.length → st = foldAll iv (t.length / 64) t

theorem HS.none : HS [] ⟨0, 0, 0, 0, 0, 0, 0, 0⟩ (List.replicate 64 0) :=
  ⟨by constructor <;> decide, by simp, by simp, by simp⟩

/-- the bytes of the block behind a copy of u -/
def over (rest : List UInt8) (at' : Nat) (u : List UInt8) : List UInt8 := rest.take at' ++ u ++ rest.drop (at' + u.length)
theorem over_length (rest : List UInt8) (at' : Nat) (u : List UInt8) (h : at' + u.length ≤ rest.length) : (over rest at' u).length = rest.length := by
  simp [over]; omega

theorem HS.part {t : List UInt8} {st : St} {rest : List UInt8} (h : HS t st rest) (u : List UInt8) (hu : t.length % 64 + u.length < 64) : HS (t ++ u) st (over rest (t.length % 64) u) := by
  have hl := h.len
  have e1 : (t ++ u).length % 64 = t.length % 64 + u.length := by simp; omega
  have e2 : (t ++ u).length / 64 = t.length / 64 := by simp; omega
  refine ⟨h.ok, by rw [over_length _ _ _ (by omega)]; exact hl, ?_, ?_⟩
  · rw [e1, e2, over, List.take_append_of_le_length (by simp; omega), List.take_of_length_le (by simp; omega), h.tail, List.drop_append_of_le_length (by omega)]
  · intro h64
    rw [e2, foldAll_append _ _ _ _ (by omega)]
    exact h.state (by simp at h64; omega)
theorem HS.full {t : List UInt8} {st : St} {rest : List UInt8} (h : HS t st rest) (u : List UInt8) (hu : t.length % 64 + u.length = 64) :
    HS (t ++ u) (fold (if t.length < 64 then iv else st) (over rest (t.length % 64) u)) (over rest (t.length % 64) u) := by
  have hl := h.len
  have e1 : (t ++ u).length % 64 = 0 := by simp; omega
  have e2 : (t ++ u).length / 64 = t.length / 64 + 1 := by simp; omega
  have hs : (if t.length < 64 then iv else st) = foldAll iv (t.length / 64) t := by
    split
    · rw [show t.length / 64 = 0 from by omega]; rfl
    · exact h.state (by omega)
  have ho : over rest (t.length % 64) u = t.drop (64 * (t.length / 64)) ++ u := by
    have hd : rest.drop (t.length % 64 + u.length) = [] := List.drop_eq_nil_of_le (by omega)
    rw [over, h.tail, hd, List.append_nil]
  refine ⟨fold_ok _ _, by rw [over_length _ _ _ (by omega)]; exact hl, ?_, ?_⟩
  · rw [e1, e2, List.drop_eq_nil_of_le (by simp; omega)]; simp
  · intro _
    rw [e2, foldAll_last, hs, ho, foldAll_append _ _ _ _ (by omega), List.drop_append_of_le_length (by omega), List.take_of_length_le (by simp; omega)]

theorem filling_length (n : Nat) : (filling n).length = 9 + (119 - n % 64) % 64 := by
  simp [filling, be]; omega
theorem filling_mod (n : Nat) : (n + (filling n).length) % 64 = 0 ∧ 9 ≤ (filling n).length ∧ (filling n).length ≤ 72 := by
  rw [filling_length]; omega
/-- what is told behind the filling -/
theorem HS.sum {t : List UInt8} {st : St} {rest : List UInt8} (h : HS (t ++ filling t.length) st rest) : st.bytes = sha t := by
  have hf := filling_mod t.length
  have e := h.state (by simp; omega)
  rw [e, sha]; simp
theorem be_length (n : Nat) : ∀ k, (be n k).length = k
  | 0 => rfl
  | k + 1 => by simp [be, be_length n k]
theorem bytes_length (s : St) : s.bytes.length = 32 := by simp [St.bytes, be_length]
theorem bytes_at (s : St) (i : Nat) (hi : i < 32) : s.bytes.getD i 0 = UInt8.ofNat (s.l.getD (i / 4) 0 / 2 ^ (8 * (3 - i % 4))) := by
  have h : i = 0 ∨ i = 1 ∨ i = 2 ∨ i = 3 ∨ i = 4 ∨ i = 5 ∨ i = 6 ∨ i = 7 ∨ i = 8 ∨ i = 9 ∨ i = 10 ∨ i = 11 ∨ i = 12 ∨ i = 13 ∨ i = 14 ∨ i = 15 ∨ i = 16 ∨ i = 17 ∨ i = 18 ∨ i = 19 ∨ i = 20 ∨ i = 21 ∨ i = 22 ∨ i = 23 ∨ i = 24 ∨ i = 25 ∨ i = 26 ∨ i = 27 ∨ i = 28 ∨ i = 29 ∨ i = 30 ∨ i = 31 := by omega
  rcases h with rfl | rfl | rfl | rfl | rfl | rfl | rfl | rfl | rfl | rfl | rfl | rfl | rfl | rfl | rfl | rfl | rfl | rfl | rfl | rfl | rfl | rfl | rfl | rfl | rfl | rfl | rfl | rfl | rfl | rfl | rfl | rfl <;> rfl
theorem l_lt {s : St} (h : s.ok) (j : Nat) : s.l.getD j 0 < 4294967296 := by
  match j with
  | 0 => exact h.a
  | 1 => exact h.b
  | 2 => exact h.c
  | 3 => exact h.d
  | 4 => exact h.e
  | 5 => exact h.f
  | 6 => exact h.g
  | 7 => exact h.h
  | j + 8 => show 0 < 4294967296; decide
theorem byte_walk (x m : Nat) : IntKind.u8.wrap ((x : Int) / 2 ^ m) = (((UInt8.ofNat (x / 2 ^ m)).toNat : Nat) : Int) := by
  rw [IntKind.wrap_u8']
  have e : (x : Int) / 2 ^ m = ((x / 2 ^ m : Nat) : Int) := by rw [Int.natCast_ediv, Int.natCast_pow]; rfl
  rw [e]
  simp [UInt8.toNat_ofNat']
theorem sha_length (l : List UInt8) : (sha l).length = 32 := by
  simp [sha, bytes_length]
/-- the array of 'filling' behind k of the length's bytes -/
def fillTo (n z k : Nat) : List UInt8 := (128 :: List.replicate (z + 8 - k) 0) ++ (be (8 * n) k ++ List.replicate (63 - z) 0)
theorem fillTo_length (n z k : Nat) (hz : z < 64) (hk : k ≤ 8) : (fillTo n z k).length = 72 := by simp [fillTo, be_length]; omega
theorem fillTo_start (n z : Nat) (hz : z < 64) : fillTo n z 0 = 128 :: List.replicate 71 0 := by
  have : List.replicate (z + 8) (0 : UInt8) ++ List.replicate (63 - z) 0 = List.replicate 71 0 := by
    rw [List.replicate_append_replicate]; congr 1; omega
  simp [fillTo, be, this]
theorem fillTo_end (n : Nat) : (fillTo n ((119 - n % 64) % 64) 8).take (9 + (119 - n % 64) % 64) = filling n := by
  generalize hz : (119 - n % 64) % 64 = z
  rw [fillTo, filling, hz]
  rw [← List.append_assoc, List.take_append_of_le_length (by simp [be_length]; omega), List.take_of_length_le (by simp [be_length]; omega)]
  simp
theorem fill_walk (n k : Nat) : (n : Int) * 8 / 2 ^ (8 * k) % 256 = (((UInt8.ofNat (8 * n / 256 ^ k)).toNat : Nat) : Int) := by
  have e : (n : Int) * 8 / 2 ^ (8 * k) = ((8 * n / 256 ^ k : Nat) : Int) := by
    rw [Int.natCast_ediv, Int.natCast_pow, Int.natCast_mul, Int.mul_comm, Nat.mul_comm 8 k]
    congr 1
    rw [show (((256 : Nat) : Int)) = 2 ^ 8 from rfl, ← Int.pow_mul, Nat.mul_comm]
  rw [e]
  simp [UInt8.toNat_ofNat']
end Go.Proofs.YtdbbemcddhgbcaaGreatDoor.Sha

namespace Go.Proofs.YtdbbemcddhgbcaaGreatDoor
open Go.RowKit

/-- a string of bytes -/
def sv (l : List UInt8) : Value := .string ⟨l.toArray⟩

theorem oneCell_of {l : List Value} (h : ∀ v ∈ l, v.oneCell' = true) : l.toArray.all (·.oneCell') = true := all_oneCell_toArray h
theorem bv_mem {l : List UInt8} {v : Value} (h : v ∈ bv l) : v.oneCell' = true := by
  simp only [bv, List.mem_map] at h
  obtain ⟨n, _, rfl⟩ := h
  rfl
theorem wv_mem {l : List Nat} {v : Value} (h : v ∈ wv l) : v.oneCell' = true := by
  simp only [wv, List.mem_map] at h
  obtain ⟨n, _, rfl⟩ := h
  rfl
@[simp] theorem bv_length (l : List UInt8) : (bv l).length = l.length := by simp [bv]
@[simp] theorem wv_length (l : List Nat) : (wv l).length = l.length := by simp [wv]
theorem bv_append (a b : List UInt8) : bv (a ++ b) = bv a ++ bv b := by simp [bv]

/-- a hasher's cells -/
def hcells (st : Sha.St) (rest : List UInt8) (n : Nat) : List Value := wv st.l ++ (bv rest ++ [.int .i64 (n : Int)])
theorem hcells_length {st : Sha.St} {rest : List UInt8} {n : Nat} (h : rest.length = 64) : (hcells st rest n).length = 73 := by
  simp [hcells, Sha.St.l, h]

theorem rangeAt_of_list {w : World} {b : Nat} {L : List Value} {t : TypeId} {fr : Nat × Nat} (hb : w.heap[b]? = some (.cells L.toArray t fr)) {o : Nat} {l : List Value} (h : ∀ j v, l[j]? = some v → L[o + j]? = some v) : w.rangeAt b o l := fun j v hv => by
  rw [cell_of_row w b (o + j) _ t fr hb]
  simpa using h j v hv
theorem hcells_state {w : World} {b : Nat} {st : Sha.St} {rest : List UInt8} {n : Nat} {t : TypeId} (h : w.heap[b]? = some (.cells (hcells st rest n).toArray t (0, 0))) : w.rangeAt b 0 (wv st.l) :=
  rangeAt_of_list h fun j v hv => by
    have hj : j < (wv st.l).length := (List.getElem?_eq_some_iff.1 hv).1
    rw [hcells, Nat.zero_add, List.getElem?_append_left hj]; exact hv
theorem hcells_rest {w : World} {b : Nat} {st : Sha.St} {rest : List UInt8} {n : Nat} {t : TypeId} (h : w.heap[b]? = some (.cells (hcells st rest n).toArray t (0, 0))) : w.rangeAt b 8 (bv rest) :=
  rangeAt_of_list h fun j v hv => by
    have hj : j < (bv rest).length := (List.getElem?_eq_some_iff.1 hv).1
    have h8 : (wv st.l).length = 8 := by simp [Sha.St.l]
    rw [hcells, List.getElem?_append_right (by omega), h8, show 8 + j - 8 = j from by omega, List.getElem?_append_left hj]; exact hv
theorem hcells_taken {w : World} {b : Nat} {st : Sha.St} {rest : List UInt8} {n : Nat} {t : TypeId} (h : w.heap[b]? = some (.cells (hcells st rest n).toArray t (0, 0))) (hl : rest.length = 64) : w.cell? ⟨b, 72, none⟩ = some (.int .i64 (n : Int)) := by
  rw [cell_of_row w b 72 _ t _ h]
  have h8 : (wv st.l).length = 8 := by simp [Sha.St.l]
  have h64 : (bv rest).length = 64 := by simp [hl]
  simp only [List.getElem?_toArray]
  rw [hcells, List.getElem?_append_right (by omega), h8, List.getElem?_append_right (by omega), h64]
  rfl

/-- everything but block b is as it was -/
structure But (b : Nat) (w w' : World) : Prop where
  os : w'.os = w.os
  tape : w'.tape = w.tape
  output : w'.output = w.output
  size : w.heap.size ≤ w'.heap.size
  block : ∀ k, k < w.heap.size → k ≠ b → w'.heap[k]? = w.heap[k]?
theorem But.refl (b : Nat) (w : World) : But b w w := ⟨rfl, rfl, rfl, Nat.le_refl _, fun _ _ _ => rfl⟩
theorem But.trans {b : Nat} {w w1 w2 : World} (h : But b w w1) (k : But b w1 w2) : But b w w2 :=
  ⟨k.os.trans h.os, k.tape.trans h.tape, k.output.trans h.output, Nat.le_trans h.size k.size, fun i hi hb => (k.block i (Nat.lt_of_lt_of_le hi h.size) hb).trans (h.block i hi hb)⟩
theorem But.below {b B : Nat} {w w' : World} (h : But b w w') (hB : B ≤ b) (hB' : B ≤ w.heap.size) : Below B w w' :=
  ⟨h.os, h.tape, h.output, h.size, fun k hk => h.block k (by omega) (by omega)⟩
theorem But.ofBelow {b : Nat} {w w' : World} (h : Below w.heap.size w w') : But b w w' := ⟨h.os, h.tape, h.output, h.size, fun k hk _ => h.block k hk⟩
theorem But.setRow {b : Nat} {w w' : World} (h : But b w w') (cs : Array Value) : But b w (w'.setRow b cs) :=
  ⟨h.os, h.tape, h.output, by rw [setRow_size]; exact h.size, fun k hk hb => (setRow_other w' b k cs hb).trans (h.block k hk hb)⟩
theorem But.drew {b : Nat} {w w' : World} (h : But b w w') : But b w w'.drew := ⟨h.os, h.tape, h.output, h.size, h.block⟩
theorem But.drewN {b : Nat} {w w' : World} (h : But b w w') (n : Nat) : But b w (w'.drewN n) := ⟨h.os, h.tape, h.output, h.size, h.block⟩
theorem But.tabs {b : Nat} {w w' : World} (h : But b w w') (T : Tabs w) (hb : 13 ≤ b) : Tabs w' := T.below (h.below hb T.lt) (Nat.le_refl 13)

/-- copy(dst, s) of a string into a row: as many bytes as fit -/
theorem run_copy_min {P : Program} (w : World) (dT sT ty elem : TypeId) (g o dLen dCap : Nat) (s : ByteArray) (cur : Array Value) (t : TypeId)
    (hu : P.underlying dT = some (.slice elem)) (hs : (P.info? elem).map (·.size) = some 1) (hg : w.heap[g]? = some (.cells cur t (0, 0))) (hfit : o + min s.size dLen ≤ cur.size) :
    (Builtin.copy_ #[dT, sT] ty #[.slice (some ⟨g, o, none⟩) dLen dCap, .string s]).run P w =
      .ok (goInt ((min s.size dLen : Nat) : Int)) (w.setRow g (cur.toList.take o ++ bv (s.data.toList.take (min s.size dLen)) ++ cur.toList.drop (o + min s.size dLen)).toArray) := by
  have hlen : (bv (s.data.toList.take (min s.size dLen))).length = min s.size dLen := by
    have : s.data.toList.length = s.size := by rw [Array.length_toList]; rfl
    simp [List.length_take, this]
  have hst := run_storeCells_at P g o t (bv (s.data.toList.take (min s.size dLen))) 0 cur w hg (by rw [hlen]; simpa using hfit) (fun v hv => bv_mem hv)
  rw [hlen] at hst
  simp only [Nat.add_zero] at hst
  have htk : List.take (Nat.min s.size dLen) (List.map (fun b : UInt8 => Value.int IntKind.u8 (b.toNat : Int)) s.data.toList) = bv (s.data.toList.take (min s.size dLen)) := by
    rw [bv, List.map_take]
  cases hq : P.info? elem with
  | none => simp [hq] at hs
  | some i =>
    simp [Builtin.copy_, run_underlying hu, Builtin.lenOf, Builtin.firstCells, sizeOf, typeInfo, hq]
    rw [htk, hst]
    simp [Result.andThen]

/-- string(b) of bytes that lie in a row -/
theorem run_conv_bytes {P : Program} (w : World) (src dst e : TypeId) (g o len cap : Nat) (bs : List UInt8) (hl : bs.length = len)
    (hs : P.underlying src = some (.slice e)) (he : P.underlying e = some (.int .u8)) (hd : P.underlying dst = some .string)
    (hc : w.rangeAt g o (bv bs)) : (convert src dst (.slice (some ⟨g, o, none⟩) len cap)).run P w = .ok (sv bs) w := by
  have hb : (bv bs) = (bs.map fun b => (b.toNat : Int)).map (Value.int .u8) := by simp [bv]
  have hlc : (loadCells ⟨g, o, none⟩ len).run P w = .ok ((bs.map fun b => (b.toNat : Int)).map (Value.int .u8)).toArray w := by
    rw [← hb, ← hl, ← bv_length bs]
    exact run_loadCells_list (P := P) w ⟨g, o, none⟩ (bv bs) (fun j v hv => by rw [Addr.add_mid]; exact hc j v hv)
  rw [run_convert_bytes_string w src dst e _ len cap hs he hd, run_bytesToString w _ len cap _ hlc]
  congr 1
  have key : ∀ (l : List UInt8) (r : ByteArray), (l.map fun b => (b.toNat : Int)).foldl (fun r n => r.push (UInt8.ofNat n.toNat)) r = ⟨r.data ++ l.toArray⟩ := by
    intro l
    induction l with
    | nil => intro r; simp
    | cons b l ih =>
      intro r
      rw [List.map_cons, List.foldl_cons, ih]
      simp [ByteArray.push]
  rw [key, sv]
  simp
end Go.Proofs.YtdbbemcddhgbcaaGreatDoor
