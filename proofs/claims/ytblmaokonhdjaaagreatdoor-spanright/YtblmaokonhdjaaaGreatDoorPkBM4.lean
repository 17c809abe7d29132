import Derived.Test.YtblmaokonhdjaaaGreatDoorPkBM3
import Derived.Test.YtblmaokonhdjaaaGreatDoorPkO20
import Derived.Test.YtblmaokonhdjaaaGreatDoorPkO46
import Derived.Test.YtblmaokonhdjaaaGreatDoorPkPP1
import Derived.Lib.UnsafeStr
import Derived.Lib.BufferWrite
import Derived.Laws.MakeOwn
import Derived.Deep.RegionLaw
/- THE PLAIN MATHEMATICS OF LAYER 12: counts, and going up -/
namespace Go.Proofs.YtblmaokonhdjaaaGreatDoor
namespace Bat
open Tree
theorem D_dg {n : Nat} (h1 : 1 ≤ n) : (D n 0).length = dg (n - 1) := by
  by_cases h : n = 1
  · subst h; rw [D_one 0 (by omega)]; simp [dg]
  · have hne : n - 1 ≠ 0 := by omega
    have e1 := Nat.log2_self_le hne
    have e2 := Nat.lt_log2_self (n := n - 1)
    rw [D_zero (n - 1).log2 n (by omega) (by omega)]
    unfold dg
    rw [if_neg hne]
theorem wit_all {is : List Nat} {n : Nat} (h : ∀ i ∈ is, i < n) : wit is 0 n = is := by
  unfold wit
  rw [List.filter_eq_self]
  intro i hi
  simp [h i hi]
theorem told_few {is : List Nat} {n : Nat} (h1 : 1 ≤ n) (hp : is.Pairwise (· < ·)) (hi : ∀ i ∈ is, i < n) (h0 : is ≠ []) : (othF n 0 n is).length + is.length ≤ n ∧ (othF n 0 n is).length ≤ is.length * dg (n - 1) := by
  have hw := wit_all hi
  have c1 := oth_count is (hp.imp fun h => by omega) n 0 n (Nat.le_refl _) h1
  obtain ⟨i, hm⟩ := List.exists_mem_of_ne_nil _ h0
  have c2 := oth_most is n 0 n (Nat.le_refl _) h1 (tch_mem.2 ⟨i, hm, by omega, by have := hi i hm; omega⟩)
  rw [Nat.zero_add, hw] at c1 c2
  rw [D_dg h1] at c2
  exact ⟨c1, c2⟩
theorem many_told {is : List Nat} {n : Nat} (l : List T) (h1 : 1 ≤ n) (hn : n ≤ l.length) (hi : ∀ i ∈ is, i < n) : (othF n 0 n is).map (rt l) = many is 0 (l.take n) := by
  have e := othF_hash l is n 0 n h1 (Nat.le_refl _) (by omega)
  rw [Nat.zero_add, wit_all hi] at e
  have : seg l 0 n = l.take n := by simp [seg]
  rw [this] at e
  exact e
/-- a path of known hashes leads up -/
theorem up_val {is : List Nat} {val : Nat × Nat → T} (hv : ∀ b m, 2 ≤ m → tch is b (b + m) = true → val (b, b + m) = nd (val (b, b + sp m)) (val (b + sp m, b + m))) {i : Nat} (hi : i ∈ is) :
    ∀ (f b m : Nat), 1 ≤ m → m ≤ f → b ≤ i → i < b + m → Tree.upd (val (i, i + 1)) (D m (i - b)) ((pthF f b m i).map val) = val (b, b + m)
  | 0, b, m, h1, h2, _, _ => by omega
  | f + 1, b, m, h1, h2, hb, hbm => by
    by_cases hm : m < 2
    · obtain rfl : m = 1 := by omega
      obtain rfl : i = b := by omega
      rw [pthF_small (by omega), D_one _ (by omega)]
      rfl
    · have s1 := sp_lt (n := m) (by omega)
      have s2 := sp_pos (n := m) (by omega)
      have htc : tch is b (b + m) = true := tch_mem.2 ⟨i, hi, hb, hbm⟩
      rw [hv b m (by omega) htc]
      by_cases hl : i < b + sp m
      · rw [pthF_left (by omega) hl, D_left (by omega) (by omega), List.map_append, List.map_singleton, upd_snoc _ _ _ _ _ (by rw [List.length_map, pthF_len f b (sp m) i (by omega) hb]), up_val hv hi f b (sp m) (by omega) (by omega) hb hl]
        rfl
      · have ih := up_val hv hi f (b + sp m) (m - sp m) (by omega) (by omega) (by omega) (by omega)
        rw [show b + sp m + (m - sp m) = b + m by omega, show i - (b + sp m) = i - b - sp m by omega] at ih
        rw [pthF_right (by omega) hl, D_right (by omega) (by omega), List.map_append, List.map_singleton, upd_snoc _ _ _ _ _ (by rw [List.length_map, pthF_len f (b + sp m) (m - sp m) i (by omega) (by omega), show i - (b + sp m) = i - b - sp m by omega]), ih]
        rfl
/-- what is true of told ones and leaves, and goes up -/
structure Cls (is : List Nat) (n : Nat) (p : Nat × Nat → Prop) : Prop where
  nn : ∀ b m, 2 ≤ m → tch is b (b + m) = true → p (b, b + sp m) → p (b + sp m, b + m) → p (b, b + m)
  tt : ∀ s ∈ othF n 0 n is, p s
  ll : ∀ i ∈ is, p (i, i + 1)
theorem Cls.down {is : List Nat} {n : Nat} {p : Nat × Nat → Prop} (h : Cls is n p) : ∀ (f b m : Nat), 1 ≤ m → m ≤ f → (∀ s ∈ othF f b m is, p s) → p (b, b + m)
  | 0, b, m, h1, h2, _ => by omega
  | f + 1, b, m, h1, h2, ho => by
    cases ht : tch is b (b + m) with
    | false => exact ho _ (by rw [othF_no ht]; exact List.mem_singleton.2 rfl)
    | true =>
      by_cases hm : m < 2
      · obtain rfl : m = 1 := by omega
        obtain ⟨i, hi, h4, h5⟩ := tch_mem.1 ht
        obtain rfl : i = b := by omega
        exact h.ll i hi
      · have s1 := sp_lt (n := m) (by omega)
        have s2 := sp_pos (n := m) (by omega)
        rw [othF_two ht (by omega)] at ho
        have q2 := h.down f (b + sp m) (m - sp m) (by omega) (by omega) (fun s hs => ho s (List.mem_append_right _ hs))
        rw [show b + sp m + (m - sp m) = b + m by omega] at q2
        exact h.nn b m (by omega) ht (h.down f b (sp m) (by omega) (by omega) (fun s hs => ho s (List.mem_append_left _ hs))) q2
theorem Cls.path {is : List Nat} {n : Nat} {p : Nat × Nat → Prop} (h : Cls is n p) {i : Nat} (hi : i ∈ is) : ∀ (f b m : Nat), 1 ≤ m → m ≤ f → b ≤ i → i < b + m → (∀ s ∈ othF f b m is, p s) → ∀ s ∈ pthF f b m i, p s
  | 0, b, m, h1, h2, _, _, _ => by omega
  | f + 1, b, m, h1, h2, hb, hbm, ho => by
    by_cases hm : m < 2
    · rw [pthF_small (by omega)]; intro s hs; cases hs
    · have s1 := sp_lt (n := m) (by omega)
      have s2 := sp_pos (n := m) (by omega)
      rw [othF_two (tch_mem.2 ⟨i, hi, hb, hbm⟩) (by omega)] at ho
      intro s hs
      by_cases hl : i < b + sp m
      · rw [pthF_left (by omega) hl] at hs
        rcases List.mem_append.1 hs with hs | hs
        · exact h.path hi f b (sp m) (by omega) (by omega) hb hl (fun s hs => ho s (List.mem_append_left _ hs)) s hs
        · obtain rfl := List.mem_singleton.1 hs
          have := h.down f (b + sp m) (m - sp m) (by omega) (by omega) (fun s hs => ho s (List.mem_append_right _ hs))
          rwa [show b + sp m + (m - sp m) = b + m by omega] at this
      · rw [pthF_right (by omega) hl] at hs
        rcases List.mem_append.1 hs with hs | hs
        · exact h.path hi f (b + sp m) (m - sp m) (by omega) (by omega) (by omega) (by omega) (fun s hs => ho s (List.mem_append_right _ hs)) s hs
        · obtain rfl := List.mem_singleton.1 hs
          exact h.down f b (sp m) (by omega) (by omega) (fun s hs => ho s (List.mem_append_left _ hs))
end Bat
end Go.Proofs.YtblmaokonhdjaaaGreatDoor

/- Layer 14: what is told of a tree's leaves -/
namespace Go.Proofs.YtblmaokonhdjaaaGreatDoor
open Go.RowKit Go.Shelf
namespace Spn
theorem tolS_rt {L : List (List UInt8)} {n s e : Nat} (hse : s < e) (hen : e ≤ n) : tolS L n s e = (Tree.othF n 0 n (rix s e)).map (Bat.rt L) := by
  unfold tolS
  rw [oth_run hse n 0 n (by omega) (Nat.le_refl _)]
  rfl
theorem tolS_len {L : List (List UInt8)} {n s e : Nat} : (tolS L n s e).length = (Tree.runF n 0 n s e).length := List.length_map _
theorem tolS_hs {L : List (List UInt8)} (hL : Tree.Hs L) (n s e : Nat) : Tree.Hs (tolS L n s e) := fun x hx => by
  unfold tolS at hx
  obtain ⟨q, _, rfl⟩ := List.mem_map.1 hx
  exact Tree.root_hash fun t ht => hL t (List.mem_of_mem_take (List.mem_of_mem_drop ht))
theorem hsB_is {l : List (List UInt8)} (h : Tree.Hs l) : hsB8 l = true := by
  unfold hsB8
  rw [List.all_eq_true]
  intro x hx
  simp [h x hx]
theorem rix_get {s e k i : Nat} (h : (rix s e)[k]? = some i) : i = s + k ∧ k < e - s := by
  obtain ⟨hk, e1⟩ := List.getElem?_eq_some_iff.1 h
  rw [rix_len] at hk
  simp at e1
  omega
/-- the leaves of a run -/
abbrev lvR (L : List (List UInt8)) (s e : Nat) : List (List UInt8) := (L.drop s).take (e - s)
theorem lvR_len {L : List (List UInt8)} {s e : Nat} (h : e ≤ L.length) : (lvR L s e).length = e - s := by rw [List.length_take, List.length_drop]; omega
theorem tol_val {L : List (List UInt8)} {n s e : Nat} (hse : s < e) (hen : e ≤ n) (hn : n ≤ L.length) : ∃ val, Val (rix s e) n (tolS L n s e) (lvR L s e) val ∧ val (0, n) = Tree.root (L.take n) := by
  obtain ⟨val, V⟩ := val_of (n := n) hse hen (H := tolS L n s e) (L := lvR L s e) tolS_len (lvR_len (by omega))
  have F : Bat.Fit (rix s e) n L val := Bat.Val.fit V hn (fun i hi => by have := mem_rix.1 hi; omega) (tolS_rt hse hen) (fun k i h => by
    obtain ⟨rfl, hk⟩ := rix_get h
    rw [List.getElem?_take, if_pos hk, List.getElem?_drop])
  exact ⟨val, V, F.root (by omega)⟩
theorem tol_many {L : List (List UInt8)} {n s e : Nat} (hse : s < e) (hen : e ≤ n) (hn : n ≤ L.length) : tolS L n s e = Tree.many (rix s e) 0 (L.take n) := by
  rw [tolS_rt hse hen]
  exact Bat.many_told L (by omega) hn (fun i hi => by have := mem_rix.1 hi; omega)
end Spn
end Go.Proofs.YtblmaokonhdjaaaGreatDoor

/- Layer 14, the program: a joiner -/
namespace Go.Proofs.YtblmaokonhdjaaaGreatDoor
open Go.RowKit Go.Shelf
namespace Spn
theorem infoB14 : (Tryz.prog.info? 5).map (fun i => (i.zero, i.size, i.bytes)) = some (some (.int .u8 0), 1, 1) := by kernel_rfl
theorem sizeB14 : (Tryz.prog.info? 5).map (·.size) = some 1 := by kernel_rfl
theorem cellsB14 : Tryz.prog.cellsOf 5 = 1 := by kernel_rfl
set_option maxRecDepth 100000 in
set_option maxHeartbeats 4000000 in
theorem sclone14 (s : ByteArray) (hs : s.size ≤ 1000000) (w : World) : Calls Tryz.prog 86 #[.string s] w fun r w' => r = .returned (.string s) ∧ Below w.heap.size w w' := by
  by_cases h0 : s.size = 0
  · obtain rfl : s = ⟨#[]⟩ := ByteArray.ext (Array.eq_empty_of_size_eq_zero h0)
    go_enter Tryz.func86, Tryz.ntmps86
    go_wp2
    go_ret
    exact ⟨rfl, Below.refl _ _⟩
  · obtain ⟨i0, hi, hz0, hz1, hz2⟩ := info_parts infoB14
    obtain ⟨M, hM⟩ : ∃ M, madeCells (Value.int .u8 0).cells (s.size * 1) = M := ⟨_, rfl⟩
    have hMs : M.size = s.size := by rw [← hM, size_madeCells, Nat.mul_one]
    have hmk := run_make (P := Tryz.prog) w 36 5 i0 (.int .u8 0) Tryz.underlying36 hi hz0 .i64 .i64 (s.size : Int) (s.size : Int) (by omega) (by omega) (by rw [hz2]; omega) (by omega)
    rw [Int.toNat_natCast, hz1, hM] at hmk
    have hrow := heap_alloc_new w (.cells M 5)
    have hcp := Lib.run_copy_row_string (P := Tryz.prog) (w.alloc (.cells M 5)) 36 9 3 5 w.heap.size 0 s.size s.size s M 5 Tryz.underlying36 sizeB14 hrow (Nat.le_refl _) (by omega)
    rw [List.take_zero, List.nil_append, List.drop_of_length_le (by rw [Array.length_toList]; omega), List.append_nil] at hcp
    have hY : (Lib.byteCells s.data.toList).toArray.size = s.size := by rw [List.size_toArray, Lib.byteCells_length, ← Lib.size_eq]
    have hrow2 := setRow_heap (w.alloc (.cells M 5)) w.heap.size M (Lib.byteCells s.data.toList).toArray 5 (0, 0) hrow
    have hne : s.data.toList ≠ [] := fun e => h0 (by rw [Lib.size_eq, e]; rfl)
    have hus := Lib.run_unsafeString_row (P := Tryz.prog) ((w.alloc (.cells M 5)).setRow w.heap.size (Lib.byteCells s.data.toList).toArray) 207 3 9 5 Tryz.underlying207 cellsB14 w.heap.size (Lib.byteCells s.data.toList).toArray.size (by unfold World.shape?; rw [hrow2]) s.data.toList hne (by rw [← Lib.size_eq]; omega) (by rw [← Lib.size_eq]; omega)
      (fun j x hx => by
        rw [Addr.add_mid, cell_of_row _ _ _ _ _ _ hrow2, Nat.zero_add]
        simp [Lib.byteCells, hx])
    rw [← Lib.size_eq] at hus
    have q0 : ((s.size : Int) == 0) = false := by rw [beq_eq_false_iff_ne]; omega
    have q1 : (0 : Int) < (s.size : Int) := by omega
    have B2 : Hid (Below w.heap.size w ((w.alloc (.cells M 5)).setRow w.heap.size (Lib.byteCells s.data.toList).toArray)) :=
      ((Below.refl _ w).alloc (Nat.le_refl _) (.cells M 5)).trans ⟨rfl, rfl, rfl, by simp, fun k hk => setRow_other _ _ _ _ (Nat.ne_of_lt hk)⟩
    generalize Lib.byteCells s.data.toList = Y at *
    clear hM hi hz0 hz1 hz2 hrow hrow2 hY hMs
    go_enter Tryz.func86, Tryz.ntmps86
    go_wp2
    go_ret
    exact ⟨rfl, Lib.below_freeze B2.out (p := ⟨w.heap.size, 0, none⟩) (Nat.le_refl _) _⟩
set_option maxRecDepth 100000 in
theorem strClone14 (s : ByteArray) (hs : s.size ≤ 1000000) (w : World) : Calls Tryz.prog 48 #[.string s] w fun r w' => r = .returned (.string s) ∧ Below w.heap.size w w' := by
  have i1 := sclone14 s hs w
  go_enter Tryz.func48, Tryz.ntmps48
  go_wp2_with (go_at_call 86; refine i1.mono ?_; rintro r w1 ⟨rfl, b1⟩)
  go_ret
  exact ⟨rfl, b1⟩
/-- a joiner: the next one that is wanted, the end, what it has -/
def JnI (w : World) (g : Nat) (a e : Int) (v : Value) : Prop := w.heap[g]? = some (.cells #[.int .i64 a, .int .i64 e, v] 100 (0, 0))
theorem JnI.c0 {w : World} {g : Nat} {a e : Int} {v : Value} (h : JnI w g a e v) : w.cell? ⟨g, 0, none⟩ = some (.int .i64 a) := by rw [cell_of_row w g 0 _ _ _ h]; rfl
theorem JnI.c1 {w : World} {g : Nat} {a e : Int} {v : Value} (h : JnI w g a e v) : w.cell? ⟨g, 1, none⟩ = some (.int .i64 e) := by rw [cell_of_row w g 1 _ _ _ h]; rfl
theorem JnI.c2 {w : World} {g : Nat} {a e : Int} {v : Value} (h : JnI w g a e v) : w.cell? ⟨g, 2, none⟩ = some v := by rw [cell_of_row w g 2 _ _ _ h]; rfl
theorem JnI.new (w : World) (a e : Int) (v : Value) : JnI (w.alloc (.cells #[.int .i64 a, .int .i64 e, v] 100)) w.heap.size a e v := heap_alloc_new w _
theorem JnI.below {w w' : World} {g : Nat} {a e : Int} {v : Value} (h : JnI w g a e v) (hb : Below w.heap.size w w') : JnI w' g a e v := (hb.block g (lt_of_heap h)).trans h
theorem JnI.keep {w w' : World} {g : Nat} {a e : Int} {v : Value} {S : Nat → Prop} (h : JnI w g a e v) (hb : Keep S w w') (hs : ¬ S g) : JnI w' g a e v := (hb.block g (lt_of_heap h) hs).trans h
theorem JnI.set0 {w : World} {g : Nat} {a e : Int} {v : Value} (h : JnI w g a e v) (a' : Int) : JnI (w.setCell ⟨g, 0, none⟩ (.int .i64 a')) g a' e v := heap_setCell_same w g 0 _ _ _ h
theorem JnI.set2 {w : World} {g : Nat} {a e : Int} {v : Value} (h : JnI w g a e v) (v' : Value) : JnI (w.setCell ⟨g, 2, none⟩ v') g a e v' := heap_setCell_same w g 2 _ _ _ h
set_option maxRecDepth 100000 in
theorem jOrNone (g : Nat) (w : World) : Calls Tryz.prog 46 #[.pointer (some ⟨g, 0, none⟩)] w fun r w' => r = .returned (.pointer (some ⟨g, 0, none⟩)) ∧ w' = w := by
  go_enter Tryz.func46, Tryz.ntmps46
  go_wp2
  go_ret
  exact ⟨rfl, rfl⟩
set_option maxRecDepth 100000 in
set_option maxHeartbeats 2000000 in
theorem jDone {w : World} {g : Nat} {a e : Int} {v : Value} (J : JnI w g a e v) (q : Bool) (hq : (a == e) = q) : Calls Tryz.prog 18 #[.pointer (some ⟨g, 0, none⟩)] w fun r w' => r = .returned (.bool q) ∧ ∃ m, w' = w.drewN m := by
  have i1 := jOrNone g
  have c0 := J.c0
  have c1 := J.c1
  clear J
  go_enter Tryz.func18, Tryz.ntmps18
  go_wp2_with fail
  go_quiet (first | (go_at_call 46; exact Calls.quiet_of_same (i1 _)))
  go_wp2
  go_ret
  exact ⟨rfl, _, rfl⟩
theorem drewN_below {w : World} (m : Nat) : Below w.heap.size w (w.drewN m) := ⟨rfl, rfl, rfl, Nat.le_refl _, fun _ _ => rfl⟩
set_option maxRecDepth 100000 in
set_option maxHeartbeats 2000000 in
theorem newJoiner_ok (x y : Nat) (h1 : x < y) (h2 : y ≤ 1099511627776) (w : World) : Calls Tryz.prog 15 #[sg (x : Int) (y : Int)] w fun r w' => ∃ g, r = .returned (.tuple #[.pointer (some ⟨g, 0, none⟩), .int .i64 0]) ∧ JnI w' g (x : Int) (y : Int) (.slice none 0 0) ∧ w.heap.size ≤ g ∧ Below w.heap.size w w' := by
  have S0 := SpI.new w (x : Int) (y : Int)
  have hb := hid ((Below.refl _ w).alloc (Nat.le_refl _) (.cells #[.int .i64 (x : Int), .int .i64 (y : Int)] 50))
  have c0 := S0.c0
  have c1 := S0.c1
  have HS := hid S0
  have i1 := fun w' => isRun_is 1099511627776 (x : Int) (y : Int) true (by simp [runB]; omega) w'
  clear S0 h1 h2
  go_enter Tryz.func15, Tryz.ntmps15
  go_wp2_with (go_at_call 44; refine (i1 _).mono ?_; rintro r w1 ⟨rfl, b1⟩; have S1 := HS.out.below b1; have d0 := S1.c0; have d1 := S1.c1; have B1 := hid (hb.out.trans (b1.mono hb.out.size)); clear S1 b1)
  go_ret2
  exact ⟨_, rfl, JnI.new w1 _ _ _, B1.out.size, B1.out.alloc B1.out.size _⟩
set_option maxRecDepth 100000 in
set_option maxHeartbeats 2000000 in
theorem areEntries_yes (l : List (List UInt8)) (hq : ∀ x ∈ l, x.length ≤ 1000) (a : Option Addr) (cap : Nat) (w : World) (hc : l.length ≤ 9223372036854775807) (hA : At w a l) :
    Calls Tryz.prog 47 #[.slice a l.length cap] w fun r w' => r = .returned (.bool true) ∧ w' = w := by
  have HQ := hid hq
  generalize hn : l.length = k at *
  have HA := hid hA
  clear hA hq
  go_enter Tryz.func47, Tryz.ntmps47
  go_wp2
  go_loopw [7] (fun i w' => ∃ j : Nat, j ≤ k ∧ i = .int .i64 (j : Int) ∧ w' = w) (fun i _ => k - (intOf i).toNat)
  case atStart => exact ⟨0, by omega, rfl, rfl⟩
  case round =>
    obtain ⟨j, hj, rfl, rfl⟩ := hrel
    by_cases hjk : j < k
    · have b0 : (j : Int) < (k : Int) := by omega
      obtain ⟨y, rfl⟩ := HA.out.pos (by omega)
      obtain ⟨s, hs, hcell⟩ := HA.out.cell j (by omega)
      have h1 : ¬ (1000 : Int) < (s.size : Int) := by
        have := HQ.out _ (List.getElem_mem (show j < l.length by omega))
        rw [← hs.out, data_length] at this
        omega
      clear HA hs HQ
      go_wp2
      exact ⟨⟨j + 1, by omega, by go_num, trivial⟩, by simp [intOf]; omega⟩
    · obtain rfl : j = k := by omega
      have b0 : ¬ (j : Int) < (j : Int) := by omega
      clear HA HQ
      go_wp2
      go_ret
      exact ⟨rfl, rfl⟩
end Spn
end Go.Proofs.YtblmaokonhdjaaaGreatDoor
