import Derived.Test.YtblmaokonhdjaaaGreatDoorPkFN1
import Derived.BigQuiet
import Derived.Deep.RegionHeld3
import Derived.Test.YtblmaokonhdjaaaGreatDoorPkO2
import Derived.Test.YtblmaokonhdjaaaGreatDoorPkFR6
import Derived.Test.YtblmaokonhdjaaaGreatDoorPkSP5
import Derived.Test.YtblmaokonhdjaaaGreatDoorPkO52
namespace Go.Proofs.YtblmaokonhdjaaaGreatDoor
open Go.RowKit
set_option maxRecDepth 100000 in
theorem isPlace_is (n : Int) (q : Bool) (h : decide (0 ≤ n ∧ n ≤ 1099511627776) = q) (w : World) : Calls Tryz.prog 94 #[.int .i64 n] w fun r w' => r = .returned (.bool q) ∧ w' = w := by
  by_cases h0 : 0 ≤ n
  · by_cases h1 : n ≤ 1099511627776
    · have e := hid (show q = true by rw [← h]; simp [h0, h1])
      clear h
      go_enter Tryz.func94, Tryz.ntmps94
      go_wp2
      go_ret
      exact ⟨by rw [e.out]; rfl, rfl⟩
    · have e := hid (show q = false by rw [← h]; simp [h1])
      clear h
      go_enter Tryz.func94, Tryz.ntmps94
      go_wp2
      go_ret
      exact ⟨by rw [e.out]; rfl, rfl⟩
  · have e := hid (show q = false by rw [← h]; simp [h0])
    clear h
    go_enter Tryz.func94, Tryz.ntmps94
    go_wp2
    go_ret
    exact ⟨by rw [e.out]; rfl, rfl⟩
theorem sizeRg : (Tryz.prog.info? 114).map (·.size) = some 3 := by kernel_rfl
theorem sizeRg' (a b c : Value) : (Tryz.prog.info? 114).map (·.size) = some #[a, b, c].size := sizeRg
/-- a range among the values -/
abbrev rng (b e : Int) (v : Value) : Value := .agg #[.int .i64 b, .int .i64 e, v]
/-- a range's variable -/
def Rg (w : World) (g : Nat) (b e : Int) (v : Value) : Prop := w.heap[g]? = some (.cells #[.int .i64 b, .int .i64 e, v] 114 (0, 0))
theorem Rg.row {w : World} {g : Nat} {b e : Int} {v : Value} (h : Rg w g b e v) : w.heap[g]? = some (.cells #[.int .i64 b, .int .i64 e, v] 114 (0, 0)) := h
theorem Rg.c0 {w : World} {g : Nat} {b e : Int} {v : Value} (h : Rg w g b e v) : w.cell? ⟨g, 0, none⟩ = some (.int .i64 b) := by rw [cell_of_row w g 0 _ _ _ h]; rfl
theorem Rg.c1 {w : World} {g : Nat} {b e : Int} {v : Value} (h : Rg w g b e v) : w.cell? ⟨g, 1, none⟩ = some (.int .i64 e) := by rw [cell_of_row w g 1 _ _ _ h]; rfl
theorem Rg.c2 {w : World} {g : Nat} {b e : Int} {v : Value} (h : Rg w g b e v) : w.cell? ⟨g, 2, none⟩ = some v := by rw [cell_of_row w g 2 _ _ _ h]; rfl
theorem Rg.new (w : World) (b e : Int) (v : Value) : Rg (w.alloc (.cells #[.int .i64 b, .int .i64 e, v] 114)) w.heap.size b e v := heap_alloc_new w _
theorem Rg.below {w w' : World} {g : Nat} {b e : Int} {v : Value} (h : Rg w g b e v) (hb : Below w.heap.size w w') : Rg w' g b e v := (hb.block g (lt_of_heap h)).trans h
theorem drewBelow5 {w w' : World} (h : Below w.drew.heap.size w.drew w') : Below w.heap.size w w' := (Below.refl _ w).drew.trans h
/-- F4: may a range be one, whatever its hashes are? -/
def rgt (b e : Int) (k : Nat) : Bool := decide (0 ≤ b ∧ b ≤ 1099511627776 ∧ 0 ≤ e ∧ e ≤ 1099511627776 ∧ b ≤ e ∧ k = (Cut.cut b.toNat e.toNat).length)
end Go.Proofs.YtblmaokonhdjaaaGreatDoor

namespace Go.Proofs.YtblmaokonhdjaaaGreatDoor
open Go.RowKit
theorem svs_one' {L : List (List UInt8)} {v : Value} (h : v ∈ svs L) : v.oneCell' = true := by
  simp only [svs, List.mem_map] at h
  obtain ⟨n, _, rfl⟩ := h
  rfl
/-- a row of texts -/
def Row (w : World) (H : Nat) (L : List (List UInt8)) : Prop := w.heap[H]? = some (.cells (svs L).toArray 9 (0, 0))
theorem Row.lt {w : World} {H : Nat} {L : List (List UInt8)} (h : Row w H L) : H < w.heap.size := lt_of_heap h
theorem Row.cell {w : World} {H : Nat} {L : List (List UInt8)} (h : Row w H L) {j : Nat} {p : List UInt8} (hp : L[j]? = some p) : w.cell? ⟨H, j, none⟩ = some (sv p) := by
  rw [cell_of_row _ _ _ _ _ _ h]; simp [svs, hp]
theorem Row.at {w : World} {H : Nat} {L : List (List UInt8)} (h : Row w H L) : At w (some ⟨H, 0, none⟩) L := fun j p hp => ⟨_, rfl, h.lt, by rw [Addr.add_mid, Nat.zero_add]; exact h.cell hp⟩
theorem Row.free {w : World} {H : Nat} {L : List (List UInt8)} (h : Row w H L) {j : Nat} (hj : j < L.length) : w.frozen? ⟨H, j, none⟩ = false := by
  have := (there_of_row h 0 L.length (by simp [svs])) j hj
  rw [Nat.zero_add] at this
  exact this.2
theorem Row.below {w w' : World} {H B : Nat} {L : List (List UInt8)} (h : Row w H L) (hb : Below B w w') (hB : H < B) : Row w' H L := by
  unfold Row; rw [hb.block H hB]; exact h
theorem Row.heap {w w' : World} {H : Nat} {L : List (List UInt8)} (h : Row w H L) (e : w'.heap = w.heap) : Row w' H L := by
  unfold Row; rw [e]; exact h
theorem Row.set {w : World} {H : Nat} {L : List (List UInt8)} (h : Row w H L) (k : Nat) (x : List UInt8) : Row (w.setCell ⟨H, k, none⟩ (sv x)) H (L.set k x) := by
  have e := setCell_eq_setRow w H k (svs L).toArray 9 (0, 0) (sv x) h
  unfold Row
  rw [e, setRow_heap _ _ _ _ _ _ h]
  refine congrArg (fun A => some (Obj.cells A 9 (0, 0))) ?_
  simp [svs, List.map_set]
theorem infoS1 : (Tryz.prog.info? 9).map (·.size) = some 1 := by kernel_rfl
/-- make([]string, c) -/
theorem make_texts (w : World) (c : Nat) (hc : c ≤ 8796093021960) :
    (Instr.makeSlice 22 (.int .i64 (c : Int)) (.int .i64 (c : Int))).run Tryz.prog w = .ok (.slice (some ⟨w.heap.size, 0, none⟩) c c) (w.alloc (.cells (svs (List.replicate c [])).toArray 9)) := by
  obtain ⟨i0, hi, hz0, hz1, hz2⟩ := info_parts infoS
  have h := run_make (P := Tryz.prog) w 22 9 i0 (.string ⟨#[]⟩) Tryz.underlying22 hi hz0 .i64 .i64 (c : Int) (c : Int) (by omega) (by omega) (by rw [hz2]; omega) (by omega)
  rw [Int.toNat_natCast, hz1, Nat.mul_one] at h
  have e : madeCells (Value.string ⟨#[]⟩).cells c = (svs (List.replicate c [])).toArray := by
    apply Array.ext'
    rw [show (madeCells (Value.string ⟨#[]⟩).cells c).toList = List.replicate c (.string ⟨#[]⟩) from toList_madeCells_one _ _]
    simp [svs]; exact .inr rfl
  rw [e] at h
  exact h
/-- copy(own, l) -/
theorem copy_texts (w : World) (H : Nat) (a : Option Addr) (cap' : Nat) (ps rest : List (List UInt8)) (hs : At w a ps) (hR : Row w H (List.replicate ps.length [] ++ rest)) (m cap : Nat) (hm : m = ps.length + rest.length) :
    ∃ w', (Builtin.copy_ #[22, 22] 3 #[.slice (some ⟨H, 0, none⟩) m cap, .slice a ps.length cap']).run Tryz.prog w = .ok (goInt ps.length) w' ∧ Row w' H (ps ++ rest) ∧ But H w w' := by
  by_cases h0 : ps.length = 0
  · obtain rfl : ps = [] := List.length_eq_zero_iff.1 h0
    exact ⟨w, run_copy_none (P := Tryz.prog) w _ _ _ 9 _ _ _ _ _ _ Tryz.underlying22 infoS1 (by simp), by simpa using hR, But.refl _ _⟩
  · obtain ⟨x, rfl, hx, _⟩ := hs 0 _ (List.getElem?_eq_getElem (by omega))
    have h := run_copy_row (P := Tryz.prog) w 22 22 3 9 H 0 m cap x ps.length cap' _ 9 (svs ps) Tryz.underlying22 infoS1 hR
      (by rw [svs_length]; exact (Nat.min_eq_left (by omega)).symm) (fun j u hu => by
        simp only [svs, List.getElem?_map, Option.map_eq_some_iff] at hu
        obtain ⟨p, hp, rfl⟩ := hu
        obtain ⟨y, hy, _, hc⟩ := hs j p hp
        cases hy
        exact hc) (by simp [svs]) (fun u hu => svs_one' hu)
    refine ⟨_, h.trans (by rw [svs_length]), ?_, (But.refl _ _).setRow _⟩
    unfold Row
    rw [setRow_heap _ _ _ _ _ _ hR]
    refine congrArg (fun A => some (Obj.cells A 9 (0, 0))) ?_
    simp [svs]
end Go.Proofs.YtblmaokonhdjaaaGreatDoor

namespace Go.Proofs.YtblmaokonhdjaaaGreatDoor
open Go.RowKit
set_option maxRecDepth 100000 in
theorem fisHash_is (s : ByteArray) (q : Bool) (h : ((s.size : Int) == 32) = q) (w : World) : Calls Tryz.prog 144 #[.string s] w fun r w' => r = .returned (.bool q) ∧ w' = w := by
  go_enter Tryz.func144, Tryz.ntmps144
  go_wp2
  go_ret
  exact ⟨rfl, rfl⟩
/-- are all of 32 bytes? -/
def hsB (l : List (List UInt8)) : Bool := l.all (·.length == 32)
set_option maxRecDepth 100000 in
set_option maxHeartbeats 2000000 in
theorem areHashes_is (l : List (List UInt8)) (q : Bool) (hq : hsB l = q) (a : Option Addr) (cap : Nat) (w : World) (hc : l.length ≤ 9223372036854775807) (hA : At w a l) :
    Calls Tryz.prog 95 #[.slice a l.length cap] w fun r w' => r = .returned (.bool q) ∧ w' = w := by
  have HQ := hid hq
  generalize hn : l.length = k at *
  have HA := hid hA
  clear hA hq
  go_enter Tryz.func95, Tryz.ntmps95
  go_wp2
  go_loopw [7] (fun i w' => ∃ j : Nat, j ≤ k ∧ i = .int .i64 (j : Int) ∧ Hid ((l.take j).all (·.length == 32) = true) ∧ w' = w) (fun i _ => k - (intOf i).toNat)
  case atStart => exact ⟨0, by omega, rfl, rfl, rfl⟩
  case round =>
    obtain ⟨j, hj, rfl, hall, rfl⟩ := hrel
    by_cases hjk : j < k
    · have b0 : (j : Int) < (k : Int) := by omega
      obtain ⟨y, rfl⟩ := HA.out.pos (by omega)
      obtain ⟨s, hs, hcell⟩ := HA.out.cell j (by omega)
      by_cases h32 : s.size = 32
      · have i2 := fisHash_is s true (by simp; omega) wr
        have e2 := hid (all_take l j (by omega) hall.out (by rw [← hs.out, data_length]; exact h32))
        clear HA hall hs
        go_wp2_with (go_at_call 144; refine i2.mono ?_; rintro e w2 ⟨rfl, rfl⟩)
        exact ⟨⟨j + 1, by omega, by go_num, e2, trivial⟩, by simp [intOf]; omega⟩
      · have i2 := fisHash_is s false (by simp; omega) wr
        have e2 := all_not l j (by omega) (by rw [← hs.out, data_length]; exact h32)
        have e3 := hid (show q = false by rw [← HQ.out]; exact e2)
        clear HA hall hs e2
        go_wp2_with (go_at_call 144; refine i2.mono ?_; rintro e w2 ⟨rfl, rfl⟩)
        go_ret
        exact ⟨by rw [e3.out]; rfl, rfl⟩
    · obtain rfl : j = k := by omega
      have b0 : ¬ (j : Int) < (j : Int) := by omega
      rw [← hn, List.take_length] at hall
      have e3 := hid (show q = true by rw [← HQ.out]; exact hall.out)
      clear HA hall
      go_wp2
      go_ret
      exact ⟨by rw [e3.out]; rfl, rfl⟩
set_option maxRecDepth 100000 in
set_option maxHeartbeats 2000000 in
theorem fnode_any {l r m : List UInt8} (h : Hid (Tree.nd l r = m)) (w : World) (T : Tabs w) :
    Calls Tryz.prog 145 #[sv l, sv r] w fun e w' => e = .returned (sv m) ∧ Below w.heap.size w w' := by
  obtain ⟨m', d, hm⟩ : ∃ m' d, Hid (nodeOf l r = (m', d)) := ⟨_, _, rfl⟩
  have e' := hid (show m = m' by rw [← h.out, ← nodeOf_nd, hm.out])
  go_enter Tryz.func145, Tryz.ntmps145
  go_wp2_with (go_at_call 151; refine (node_at hm _ T).mono ?_; rintro e w1 ⟨rfl, hw1⟩)
  go_ret
  exact ⟨by rw [e'.out]; rfl, hw1⟩
/-- make(nodeList, c) -/
theorem make_nodes (w : World) (c : Nat) (hc : c ≤ 8796093021960) :
    (Instr.makeSlice 166 (.int .i64 (c : Int)) (.int .i64 (c : Int))).run Tryz.prog w = .ok (.slice (some ⟨w.heap.size, 0, none⟩) c c) (w.alloc (.cells (svs (List.replicate c [])).toArray 9)) := by
  obtain ⟨i0, hi, hz0, hz1, hz2⟩ := info_parts infoS
  have h := run_make (P := Tryz.prog) w 166 9 i0 (.string ⟨#[]⟩) Tryz.underlying166 hi hz0 .i64 .i64 (c : Int) (c : Int) (by omega) (by omega) (by rw [hz2]; omega) (by omega)
  rw [Int.toNat_natCast, hz1, Nat.mul_one] at h
  have e : madeCells (Value.string ⟨#[]⟩).cells c = (svs (List.replicate c [])).toArray := by
    apply Array.ext'
    rw [show (madeCells (Value.string ⟨#[]⟩).cells c).toList = List.replicate c (.string ⟨#[]⟩) from toList_madeCells_one _ _]
    simp [svs]; exact .inr rfl
  rw [e] at h
  exact h
theorem copy_nodes (w : World) (H : Nat) (a : Option Addr) (cap' : Nat) (ps : List (List UInt8)) (hs : At w a ps) (hR : Row w H (List.replicate ps.length [])) (cap : Nat) :
    ∃ w', (Builtin.copy_ #[166, 166] 3 #[.slice (some ⟨H, 0, none⟩) ps.length cap, .slice a ps.length cap']).run Tryz.prog w = .ok (goInt ps.length) w' ∧ Row w' H ps ∧ But H w w' := by
  by_cases h0 : ps.length = 0
  · obtain rfl : ps = [] := List.length_eq_zero_iff.1 h0
    exact ⟨w, run_copy_none (P := Tryz.prog) w _ _ _ 9 _ _ _ _ _ _ Tryz.underlying166 infoS1 (by simp), by simpa using hR, But.refl _ _⟩
  · obtain ⟨x, rfl, hx, _⟩ := hs 0 _ (List.getElem?_eq_getElem (by omega))
    have h := run_copy_row (P := Tryz.prog) w 166 166 3 9 H 0 ps.length cap x ps.length cap' _ 9 (svs ps) Tryz.underlying166 infoS1 hR
      (by rw [svs_length]; exact (Nat.min_eq_left (by omega)).symm) (fun j u hu => by
        simp only [svs, List.getElem?_map, Option.map_eq_some_iff] at hu
        obtain ⟨p, hp, rfl⟩ := hu
        obtain ⟨y, hy, _, hc⟩ := hs j p hp
        cases hy
        exact hc) (by simp [svs]) (fun u hu => svs_one' hu)
    refine ⟨_, h.trans (by rw [svs_length]), ?_, (But.refl _ _).setRow _⟩
    unfold Row
    rw [setRow_heap _ _ _ _ _ _ hR]
    refine congrArg (fun A => some (Obj.cells A 9 (0, 0))) ?_
    simp [svs]
theorem fold_drop {H : List (List UInt8)} {j j' : Nat} (hj : j' = j + 1) (h : j + 1 < H.length) : Cut.fold (H.drop j) = Tree.nd (H[j]'(by omega)) (Cut.fold (H.drop j')) := by
  subst hj
  rw [List.drop_eq_getElem_cons (by omega), List.drop_eq_getElem_cons h]
  rfl
theorem fold_last {H : List (List UInt8)} {j : Nat} (h : j + 1 = H.length) : Cut.fold (H.drop j) = (H[j]'(by omega)) := by
  rw [List.drop_eq_getElem_cons (by omega), List.drop_eq_nil_of_le (by omega)]
  rfl
end Go.Proofs.YtblmaokonhdjaaaGreatDoor

namespace Go.Proofs.YtblmaokonhdjaaaGreatDoor
open Go.RowKit
/-- a variable whose first cell is a list of its own -/
structure Nl (w : World) (q : Nat) (C : Array Value) (ty : TypeId) (v : Value) (H : List (List UInt8)) : Prop where
  row : w.heap[q]? = some (.cells C ty (0, 0))
  at0 : C[0]? = some v
  own : Own w 0 v (svs H)
  ne : v.ownBlock ≠ some q
/-- its blocks -/
def Fp (q : Nat) (v : Value) (k : Nat) : Prop := k = q ∨ v.ownBlock = some k
theorem Nl.c0 {w : World} {q : Nat} {C : Array Value} {ty : TypeId} {v : Value} {H : List (List UInt8)} (h : Nl w q C ty v H) : w.cell? ⟨q, 0, none⟩ = some v := by
  rw [cell_of_row w q 0 _ _ _ h.row]; exact h.at0
theorem Nl.f0 {w : World} {q : Nat} {C : Array Value} {ty : TypeId} {v : Value} {H : List (List UInt8)} (h : Nl w q C ty v H) : w.frozen? ⟨q, 0, none⟩ = false := frozen_of_row _ _ _ _ _ h.row
theorem Nl.keep {w w' : World} {q : Nat} {C : Array Value} {ty : TypeId} {v : Value} {H : List (List UInt8)} {S : Nat → Prop} (h : Nl w q C ty v H) (hk : Keep S w w') (hd : ∀ k, Fp q v k → ¬ S k) : Nl w' q C ty v H :=
  ⟨(hk.block q (lt_of_heap h.row) (hd q (.inl rfl))).trans h.row, h.at0, h.own.keep hk fun k hk' => hd k (.inr hk'), h.ne⟩
theorem Nl.below {w w' : World} {q : Nat} {C : Array Value} {ty : TypeId} {v : Value} {H : List (List UInt8)} (h : Nl w q C ty v H) (hb : Below w.heap.size w w') : Nl w' q C ty v H :=
  h.keep (Keep.ofBelow (S := fun _ => False) hb) fun _ _ e => e
theorem Nl.len {w : World} {q : Nat} {C : Array Value} {ty : TypeId} {v : Value} {H : List (List UInt8)} (h : Nl w q C ty v H) : 0 < C.size := by
  have := h.at0
  exact (Array.getElem?_eq_some_iff.1 this).1
theorem Own.cut {w : World} {base g n c m : Nat} {cs ds : List Value} (h : Own w base (.slice (some ⟨g, 0, none⟩) n c) (cs ++ ds)) (hm : cs.length = m) : Own w base (.slice (some ⟨g, 0, none⟩) m c) cs := by
  rcases h with ⟨h, _⟩ | ⟨g', cap', h, h1, h2, h3, h4, h5, h6⟩
  · cases h
  · injection h with e1 e2 e3
    injection e1 with e1
    injection e1 with e1
    subst e1 e3 hm
    rw [List.length_append] at h2
    exact .inr ⟨g, c, rfl, h1, by omega, h3, fun j v hv => h4 j v (by rw [List.getElem?_append_left (List.getElem?_eq_some_iff.1 hv).1]; exact hv), h5, h6⟩
/-- the last one goes: the list is cut where it lies -/
theorem Nl.pop {w : World} {q : Nat} {C : Array Value} {ty : TypeId} {g n c m : Nat} {H : List (List UInt8)} {y : List UInt8} (h : Nl w q C ty (.slice (some ⟨g, 0, none⟩) n c) (H ++ [y])) (hm : H.length = m) :
    Nl (w.setCell ⟨q, 0, none⟩ (.slice (some ⟨g, 0, none⟩) m c)) q (C.setIfInBounds 0 (.slice (some ⟨g, 0, none⟩) m c)) ty (.slice (some ⟨g, 0, none⟩) m c) H := by
  refine ⟨heap_setCell_same w q 0 _ _ _ h.row, by rw [Array.getElem?_setIfInBounds, if_pos rfl, if_pos h.len], ?_, fun e => h.ne e⟩
  have ho := h.own
  rw [show svs (H ++ [y]) = svs H ++ [sv y] by simp [svs]] at ho
  refine (ho.cut (by rw [svs_length]; exact hm)).keep (Keep.ofSet (S := fun k => k = q) w q 0 _ rfl) fun k hk e => ?_
  subst e
  exact h.ne hk
theorem append_node (w : World) (v : Value) (H : List (List UInt8)) (x : List UInt8) (hown : Own w 0 v (svs H)) (hlen : H.length ≤ 2000000) :
    ∃ v' w', (Builtin.append_ #[166, 166] 166 #[v, .slice (some ⟨w.heap.size, 0, none⟩) 1 1]).run Tryz.prog (w.alloc (.cells #[sv x] 9)) = .ok v' w' ∧ Own w' 0 v' (svs (H ++ [x])) ∧ Grow w w' v v' := by
  have h := append_one 166 9 (.string ⟨#[]⟩) 16 (by omega) Tryz.underlying166 infoS rfl w 0 v (svs H) (sv x) rfl hown (by rw [svs_length]; exact hlen) (Nat.zero_le _)
  rw [show svs H ++ [sv x] = svs (H ++ [x]) by simp [svs]] at h
  exact h
/-- one is laid behind -/
theorem Nl.push {w w' : World} {q : Nat} {C : Array Value} {ty : TypeId} {v v' : Value} {H : List (List UInt8)} {x : List UInt8} (h : Nl w q C ty v H) (hg : Grow w w' v v') (ho : Own w' 0 v' (svs (H ++ [x]))) :
    Nl (w'.setCell ⟨q, 0, none⟩ v') q (C.setIfInBounds 0 v') ty v' (H ++ [x]) ∧ Keep (Fp q v) w (w'.setCell ⟨q, 0, none⟩ v') ∧ ∀ j, v'.ownBlock = some j → v.ownBlock = some j ∨ w.heap.size ≤ j := by
  have hnew : ∀ k, v'.ownBlock = some k → v.ownBlock = some k ∨ w.heap.size ≤ k := fun k hk => by
    rcases hg.alt with e | ⟨e, _⟩
    · left; rw [← e]; exact hk
    · right; exact e k hk
  have hq := lt_of_heap h.row
  have hne : v'.ownBlock ≠ some q := fun e => by
    rcases hnew q e with e' | e'
    · exact h.ne e'
    · omega
  have row1 := (hg.old q hq h.ne).trans h.row
  refine ⟨⟨heap_setCell_same w' q 0 _ _ _ row1, by rw [Array.getElem?_setIfInBounds, if_pos rfl, if_pos h.len], ho.keep (Keep.ofSet (S := fun k => k = q) w' q 0 v' rfl) (fun k hk e => hne (e ▸ hk)), hne⟩, ?_, hnew⟩
  exact (hg.keep.mono fun _ _ e => .inr e).trans (Keep.ofSet (S := fun k => k = q) w' q 0 v' rfl) fun _ _ e => .inl e
theorem set_set (C : Array Value) (x y : Value) : (C.setIfInBounds 0 x).setIfInBounds 0 y = C.setIfInBounds 0 y := by
  apply Array.ext_getElem?
  intro i
  simp only [Array.getElem?_setIfInBounds, Array.size_setIfInBounds]
  split <;> rfl
theorem and1_i64 (E : Nat) (hE : E < 9223372036854775808) : bits .and .i64 (E : Int) 1 = ((E % 2 : Nat) : Int) := by
  have h1 : (BitVec.ofInt 64 (E : Int)).toNat = E := by
    rw [BitVec.ofInt_natCast, BitVec.toNat_ofNat]; exact Nat.mod_eq_of_lt (by omega)
  have h2 : (BitVec.ofInt 64 (1 : Int)).toNat = 1 := by decide
  show IntKind.i64.wrap ((BitVec.ofInt 64 (E : Int) &&& BitVec.ofInt 64 (1 : Int)).toNat : Int) = _
  rw [BitVec.toNat_and, h1, h2, Nat.and_one_is_mod]
  exact wrap_small _ (by omega) (by omega)
theorem bit_is {b k : Nat} (hb : b < 9223372036854775808) : bits .and .i64 ((b : Int) / 2 ^ k) 1 = ((b / 2 ^ k % 2 : Nat) : Int) := by
  have e : ((b : Int) / 2 ^ k) = ((b / 2 ^ k : Nat) : Int) := by simp
  rw [e]
  exact and1_i64 _ (Nat.lt_of_le_of_lt (Nat.div_le_self _ _) hb)
theorem last_split {H : List (List UInt8)} {m : Nat} (h : H.length = m + 1) : ∃ G y, H = G ++ [y] ∧ G.length = m := by
  refine ⟨H.dropLast, H.getLast (fun e => by rw [e] at h; simp at h), (List.dropLast_concat_getLast _).symm, by rw [List.length_dropLast]; omega⟩
set_option maxRecDepth 100000 in
set_option maxHeartbeats 8000000 in
theorem take_any (q a b k : Nat) (C : Array Value) (ty : TypeId) (v : Value) (H : List (List UInt8)) (x : List UInt8) (w : World) (hN : Nl w q C ty v H) (T : Tabs w) (hq : 5 ≤ q) (hv : ∀ j, v.ownBlock = some j → 5 ≤ j)
    (h0 : b + 2 ^ k ≤ 1099511627776) (h1 : a ≤ b) (hb : b % 2 ^ k = 0) (hl : H.length = (Cut.cut a b).length) :
    Calls Tryz.prog 96 #[.pointer (some ⟨q, 0, none⟩), spn a b, .int .i64 (k : Int), sv x] w fun r w' => r = .returned (.tuple #[]) ∧
      ∃ v', Nl w' q (C.setIfInBounds 0 v') ty v' (Cut.takeH a b (2 ^ k) x H) ∧ Keep (Fp q v) w w' ∧ ∀ j, v'.ownBlock = some j → v.ownBlock = some j ∨ w.heap.size ≤ j := by
  obtain ⟨R, hR⟩ : ∃ R, Hid (Cut.takeH a b (2 ^ k) x H = R) := ⟨_, rfl⟩
  rw [hR.out]
  have HT := hid T
  have S0 := hid (Sp.new w a b)
  have B0 := hid ((Below.refl w.heap.size w).alloc (Nat.le_refl _) (.cells #[Value.int .i64 (a : Int), Value.int .i64 (b : Int)] 50))
  have N0 := hid (hN.below B0.out)
  have hql := lt_of_heap hN.row
  have hvl := fun j hj => hN.own.lt j hj
  have HN := hid hN
  clear hN T
  go_enter Tryz.func96, Tryz.ntmps96
  go_wp2
  go_loopw [2, 3] (fun lv hs w' => ∃ b1 k1 x1 H1 v1, lv = .int .i64 ((k1 : Nat) : Int) ∧ hs = sv x1 ∧ b1 + 2 ^ k1 ≤ 1099511627776 ∧ a ≤ b1 ∧ Hid (b1 % 2 ^ k1 = 0) ∧ Hid (H1.length = (Cut.cut a b1).length) ∧ Hid (Cut.takeH a b1 (2 ^ k1) x1 H1 = R) ∧ Hid (Sp w' w.heap.size a b1) ∧ Hid (Nl w' q (C.setIfInBounds 0 v1) ty v1 H1) ∧ Hid (v1.ownBlock = v.ownBlock) ∧ Hid (Keep (Fp q v) w w')) (fun _ _ w' => memN w' w.heap.size 1)
  case atStart =>
    refine ⟨b, k, x, H, v, rfl, rfl, h0, h1, hb, hl, hR, S0, ?_, rfl, Keep.ofBelow B0.out⟩
    have := N0.out
    rwa [show C.setIfInBounds 0 v = C from by
      apply Array.ext_getElem?
      intro i
      rw [Array.getElem?_setIfInBounds]
      split
      · rename_i e
        subst e
        rw [if_pos this.len]
        exact this.at0.symm
      · rfl]
  case round =>
    obtain ⟨b1, k1, x1, H1, v1, rfl, rfl, c0, c1, c2, c3, c4, hS, hL, hvb, hK⟩ := hrel
    clear S0 N0 B0 h0 h1 hb hl hR
    have s0 := hS.out.c0
    have s1 := hS.out.c1
    have l0 := hL.out.c0
    have hk41 : k1 ≤ 40 := by
      rcases Nat.lt_or_ge 40 k1 with hlt | hge
      · have := Nat.pow_le_pow_right (n := 2) (by omega) hlt
        have : (2 : Nat) ^ (40 + 1) = 2199023255552 := by decide
        omega
      · exact hge
    have hw := wrap_pow (L := k1) (by omega)
    have hP1 := Nat.two_pow_pos k1
    have hbit := bit_is (b := b1) (k := k1) (by omega)
    by_cases hc : b1 / 2 ^ k1 % 2 = 1 ∧ a + 2 ^ k1 ≤ b1
    · have hb1 : (bits .and .i64 ((b1 : Int) / 2 ^ k1) 1 == 1) = true := by rw [hbit, hc.1]; rfl
      have hd : decide ((a : Int) ≤ (b1 : Int) - ((2 ^ k1 : Nat) : Int)) = true := by simp only [decide_eq_true_eq]; omega
      clear hbit
      have hs := Cut.cut_snoc (a := a) (by omega) c2.out hc.1 hc.2
      obtain ⟨G, y, rfl, hGl⟩ := last_split (H := H1) (m := (Cut.cut a (b1 - 2 ^ k1)).length) (by rw [c3.out, hs]; simp)
      obtain ⟨u1, u2⟩ := Cut.takeH_up (x := x1) (by omega) c2.out hc.1 hc.2 c3.out
      have hcm := Cut.cut_len (a := a) (b := b1 - 2 ^ k1) (by omega) (by omega)
      rw [← u2] at hcm
      have hlen1 : (svs (G ++ [y])).length = G.length + 1 := by simp [svs]
      have hpd := Cut.pow_double k1
      have hb2 : Hid ((b1 - 2 ^ k1) % 2 ^ (k1 + 1) = 0) := by
        unfold Hid
        obtain ⟨t, ht⟩ := Nat.dvd_of_mod_eq_zero c2.out
        have ht2 : t % 2 = 1 := by have := hc.1; rw [ht, Nat.mul_div_cancel_left _ hP1] at this; exact this
        rw [hpd]
        apply Nat.mod_eq_zero_of_dvd
        refine ⟨t / 2, ?_⟩
        rw [ht, Nat.mul_comm 2, Nat.mul_assoc, show 2 * (t / 2) = t - 1 from by omega, Nat.mul_sub, Nat.mul_one]
      obtain ⟨M, hM⟩ : ∃ M, Hid (Tree.nd y x1 = M) := ⟨_, rfl⟩
      have c4' : Hid (Cut.takeH a (b1 - 2 ^ k1) (2 ^ (k1 + 1)) M G = R) := by
        unfold Hid; rw [hpd, ← hM.out, ← u1]; exact c4.out
      have u2' := hid u2
      have L0 := hL.out
      rcases own_cases L0.own with ⟨_, e⟩ | ⟨g, cp, e1, e2⟩
      · exact absurd (congrArg List.length e) (by rw [hlen1]; simp)
      rw [hlen1] at e1
      subst e1
      have hcell : wr.cell? ⟨g, G.length, none⟩ = some (sv y) := own_cell L0.own e2 (by rw [show svs (G ++ [y]) = svs G ++ [sv y] by simp [svs], List.getElem?_append_right (by rw [svs_length]; exact Nat.le_refl _), svs_length, Nat.sub_self]; rfl)
      have hgl := L0.own.lt g e2
      have hTw : Tabs wr := by
        refine HT.out.below (B := 5) ⟨hK.out.os, hK.out.tape, hK.out.output, hK.out.size, fun j hj => hK.out.block j (by omega) fun e => ?_⟩ (Nat.le_refl _)
        rcases e with e | e
        · omega
        · have := hv j e; omega
      have HTw := hid hTw
      have Hu := And.intro u2' hb2
      have hcap : G.length + 1 ≤ cp := by
        rcases L0.own with ⟨e, _⟩ | ⟨g', c', e, _, q2, _⟩
        · cases e
        · injection e with e1 e2 e3
          subst e3
          rw [hlen1] at q2
          exact q2
      have HL := hid L0
      generalize hm0 : G.length = m at *
      have hm := hid hm0
      clear hm0
      clear u1 u2 hs c2 c3 c4 hGl hlen1 hTw hL L0
      have hq2 : g ≠ q := fun e => HL.out.ne (by rw [← e]; rfl)
      generalize hPP : 2 ^ k1 = P at *
      have m1 : ((m + 1 : Nat) : Int) - 1 = (m : Int) := by omega
      have m2 : (m : Int) < ((m + 1 : Nat) : Int) := by omega
      have m3 : (m : Int) ≤ (cp : Int) := by omega
      have Hpp := And.intro hpd hPP
      clear hpd hPP
      generalize hm1 : m + 1 = n1 at *
      go_wp2
      go_quiet (fail)
      have HL2 : Nl (wr.drewN nq) q (C.setIfInBounds 0 (.slice (some ⟨g, 0, none⟩) n1 cp)) ty (.slice (some ⟨g, 0, none⟩) n1 cp) (G ++ [y]) := ⟨HL.out.row, HL.out.at0, HL.out.own.drewN _, HL.out.ne⟩
      have l2 := HL2.c0
      have hcell2 : (wr.drewN nq).cell? ⟨g, m, none⟩ = some (sv y) := hcell
      have T2 : Tabs (wr.drewN nq) := HTw.out.below (below_drewN (Below.refl 5 wr) nq) (Nat.le_refl _)
      have S2 : Sp (wr.drewN nq) w.heap.size a b1 := hS.out
      have K2 : Keep (Fp q v) w (wr.drewN nq) := ⟨hK.out.os, hK.out.tape, hK.out.output, hK.out.size, hK.out.block⟩
      clear hcell s0 s1 l0
      have hgl2 : g < (wr.drewN nq).heap.size := hgl
      have HS2 := hid S2
      have HK2 := hid K2
      have HHL2 := hid HL2
      have hnr := hS.out.n1
      clear HL hS hK S2 K2 HL2
      generalize wr.drewN nq = w2 at *
      go_wp2_with (go_at_call 145; refine (fnode_any hM _ T2).mono ?_; rintro e w3 ⟨rfl, hw3⟩; have HL3 := HHL2.out.below hw3; have l3 := HL3.c0; have f3 := HL3.f0)
      have HL4 := HL3.pop hm.out
      rw [set_set] at HL4
      have S3 := HS2.out.below hw3
      have hgw : g < w.heap.size := hvl g (by rw [← hvb.out]; rfl)
      have S4 : Sp (w3.setCell ⟨q, 0, none⟩ (.slice (some ⟨g, 0, none⟩) m cp)) w.heap.size a b1 := (Below.heap_setCell w3 _ _ w.heap.size (by show w.heap.size ≠ q; omega)).trans S3
      have K4 : Keep (Fp q v) w (w3.setCell ⟨q, 0, none⟩ (.slice (some ⟨g, 0, none⟩) m cp)) := (HK2.out.trans (Keep.ofBelow (S := Fp q v) hw3) fun _ _ e => e).trans (Keep.ofSet (S := fun k => k = q) w3 q 0 _ rfl) fun _ _ e => .inl e
      have s4 := S4.c1
      have f4 := S4.f1
      have HS4 := hid S4
      have HK4 := hid K4
      have HHL4 := hid HL4
      clear l2 l3 f3 HL3 HL4 S3 S4 K4 HS2 HK2 HHL2 hcell2 hw3 T2 hb1 hd
      generalize w3.setCell ⟨q, 0, none⟩ (.slice (some ⟨g, 0, none⟩) m cp) = w4 at *
      go_region
      all_goals go_wp2
      all_goals
        have e1 : (b1 : Int) - (P : Int) = ((b1 - P : Nat) : Int) := by omega
        rw [e1]
        have S5 := HS4.out.set1 (b1 - P)
        have K5 := Keep.ofSet (S := fun k => k = w.heap.size) w4 w.heap.size 1 (.int .i64 ((b1 - P : Nat) : Int)) rfl
        have L5 := HHL4.out.keep K5 fun k hk e => by
          rcases hk with hk | hk
          · omega
          · have hk : some g = some k := hk
            injection hk with hk
            omega
        have KK5 := HK4.out.trans K5 fun j hj e => by omega
        refine ⟨⟨b1 - P, k1 + 1, M, G, .slice (some ⟨g, 0, none⟩) m cp, by go_num, rfl, ?_, by omega, Hu.2, ?_, c4', S5, ⟨L5.row, L5.at0, L5.own.drew, L5.ne⟩, hvb, ⟨KK5.os, KK5.tape, KK5.output, KK5.size, KK5.block⟩⟩, ?_⟩
        · rw [Hpp.1]; omega
        · unfold Hid; rw [hm.out]; exact Hu.1.out
        · rw [show memN (w4.setCell ⟨w.heap.size, 1, none⟩ (.int .i64 ((b1 - P : Nat) : Int))).drew w.heap.size 1 = b1 - P from S5.n1, hnr]; omega
    · by_cases hb : b1 / 2 ^ k1 % 2 = 1
      · have hb1 : (bits .and .i64 ((b1 : Int) / 2 ^ k1) 1 == 1) = true := by rw [hbit, hb]; rfl
        have hd : decide ((a : Int) ≤ (b1 : Int) - ((2 ^ k1 : Nat) : Int)) = false := by simp only [decide_eq_false_iff_not]; omega
        clear hbit
        have eR := hid (show R = H1 ++ [x1] by rw [← c4.out]; exact Cut.takeH_end (by omega) c1 hc c3.out)
        have hl81 := Cut.cut_len (a := a) (b := b1) (by omega) c1
        clear c2 c4 hc
        generalize 2 ^ k1 = P at *
        go_wp2
        go_quiet (fail)
        have L2 : Nl (wr.drewN nq) q (C.setIfInBounds 0 v1) ty v1 H1 := ⟨hL.out.row, hL.out.at0, hL.out.own.drewN _, hL.out.ne⟩
        have l2 := L2.c0
        have K2 : Keep (Fp q v) w (wr.drewN nq) := ⟨hK.out.os, hK.out.tape, hK.out.output, hK.out.size, hK.out.block⟩
        generalize wr.drewN nq = w2 at *
        obtain ⟨v3, w3, hap, hO3, hG3⟩ := append_node w2 v1 H1 x1 L2.own (by have := c3.out; omega)
        obtain ⟨a3, m3, c3', rfl⟩ := own_sl hO3
        obtain ⟨n1, n2, n3⟩ := L2.push hG3 hO3
        have f3 : w3.frozen? ⟨q, 0, none⟩ = false := frozen_of_row _ _ _ _ _ ((hG3.old q (lt_of_heap L2.row) L2.ne).trans L2.row)
        obtain ⟨y3, d3⟩ : ∃ y, w3.cell? ⟨q, 0, none⟩ = some y := ⟨v1, by rw [World.cell?_of_block (w := w2) (hG3.old q (lt_of_heap L2.row) L2.ne)]; exact l2⟩
        rw [set_set] at n1
        have NF := hid n1
        have KF := hid (K2.trans n2 fun j hj e => by
          rcases e with e | e
          · exact .inl e
          · exact .inr (hvb.out ▸ e))
        have VF := hid (show ∀ j, (Value.slice a3 m3 c3').ownBlock = some j → v.ownBlock = some j ∨ w.heap.size ≤ j from fun j hj => by
          rcases n3 j hj with e | e
          · exact .inl (hvb.out ▸ e)
          · exact .inr (Nat.le_trans K2.size e))
        rw [show sv x1 = Value.string ⟨x1.toArray⟩ from rfl] at hap ⊢
        clear n1 n2 n3 hO3 hG3 hL hS hK L2 K2 s0 s1 l0 HN
        go_wp2_with (at_builtin; go_must (refine Lib.wpList_append_run _ rfl _ _ 166 166 rfl _ _ rfl rfl _ _ hap ?_))
        go_end0
        exact ⟨rfl, _, by rw [eR.out]; exact NF.out, KF.out, VF.out⟩
      · have hb1 : (bits .and .i64 ((b1 : Int) / 2 ^ k1) 1 == 1) = false := by rw [hbit, beq_eq_false_iff_ne]; omega
        clear hbit
        have eR := hid (show R = H1 ++ [x1] by rw [← c4.out]; exact Cut.takeH_end (by omega) c1 hc c3.out)
        have hl81 := Cut.cut_len (a := a) (b := b1) (by omega) c1
        clear c2 c4 hc
        generalize 2 ^ k1 = P at *
        go_wp2
        go_quiet (fail)
        have L2 : Nl (wr.drewN nq) q (C.setIfInBounds 0 v1) ty v1 H1 := ⟨hL.out.row, hL.out.at0, hL.out.own.drewN _, hL.out.ne⟩
        have l2 := L2.c0
        have K2 : Keep (Fp q v) w (wr.drewN nq) := ⟨hK.out.os, hK.out.tape, hK.out.output, hK.out.size, hK.out.block⟩
        generalize wr.drewN nq = w2 at *
        obtain ⟨v3, w3, hap, hO3, hG3⟩ := append_node w2 v1 H1 x1 L2.own (by have := c3.out; omega)
        obtain ⟨a3, m3, c3', rfl⟩ := own_sl hO3
        obtain ⟨n1, n2, n3⟩ := L2.push hG3 hO3
        have f3 : w3.frozen? ⟨q, 0, none⟩ = false := frozen_of_row _ _ _ _ _ ((hG3.old q (lt_of_heap L2.row) L2.ne).trans L2.row)
        obtain ⟨y3, d3⟩ : ∃ y, w3.cell? ⟨q, 0, none⟩ = some y := ⟨v1, by rw [World.cell?_of_block (w := w2) (hG3.old q (lt_of_heap L2.row) L2.ne)]; exact l2⟩
        rw [set_set] at n1
        have NF := hid n1
        have KF := hid (K2.trans n2 fun j hj e => by
          rcases e with e | e
          · exact .inl e
          · exact .inr (hvb.out ▸ e))
        have VF := hid (show ∀ j, (Value.slice a3 m3 c3').ownBlock = some j → v.ownBlock = some j ∨ w.heap.size ≤ j from fun j hj => by
          rcases n3 j hj with e | e
          · exact .inl (hvb.out ▸ e)
          · exact .inr (Nat.le_trans K2.size e))
        rw [show sv x1 = Value.string ⟨x1.toArray⟩ from rfl] at hap ⊢
        clear n1 n2 n3 hO3 hG3 hL hS hK L2 K2 s0 s1 l0 HN
        go_wp2_with (at_builtin; go_must (refine Lib.wpList_append_run _ rfl _ _ 166 166 rfl _ _ rfl rfl _ _ hap ?_))
        go_end0
        exact ⟨rfl, _, by rw [eR.out]; exact NF.out, KF.out, VF.out⟩
end Go.Proofs.YtblmaokonhdjaaaGreatDoor
