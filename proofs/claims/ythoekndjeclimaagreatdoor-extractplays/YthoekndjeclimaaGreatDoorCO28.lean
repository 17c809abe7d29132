import Derived.Test.YthoekndjeclimaaGreatDoorCO24
import Derived.Test.YthoekndjeclimaaGreatDoorCEP2
import Derived.Test.YthoekndjeclimaaGreatDoorCO10
import Derived.Test.YthoekndjeclimaaGreatDoorCI1
import Derived.Test.YthoekndjeclimaaGreatDoorCK4
namespace Go.Proofs.YthoekndjeclimaaGreatDoor
open Go.RowKit
def bls (L : List Bool) : List Value := L.map .bool
theorem bls_length (L : List Bool) : (bls L).length = L.length := by simp [bls]
theorem infoB : (Tryz.prog.info? 4).map (fun i => (i.zero, i.size, i.bytes)) = some (some (.bool false), 1, 1) := by kernel_rfl
/-- a list of yes and no -/
def OutB (w : World) (L : List Bool) (e : Ending) (w' : World) : Prop := ∃ v, e = .returned v ∧ Own w' w.heap.size v (bls L) ∧ Below w.heap.size w w'
def sides (m : Nat) (l : List (List UInt8)) : List Bool := (Tree.zp m l).map (·.1)
end Go.Proofs.YthoekndjeclimaaGreatDoor

namespace Go.Proofs.YthoekndjeclimaaGreatDoor
open Go.RowKit
theorem take_next {L M : List (List UInt8)} {k : Nat} (h : L.take k = M.take k) (h1 : k < L.length) (h2 : k < M.length) (e : L[k] = M[k]) : L.take (k + 1) = M.take (k + 1) := by
  rw [List.take_add_one, List.take_add_one, h, List.getElem?_eq_getElem h1, List.getElem?_eq_getElem h2, e]
set_option maxRecDepth 100000 in
set_option maxHeartbeats 1600000 in
theorem equalS_any (L M : List (List UInt8)) (a d : Option Addr) (ca cd : Nat) (w : World) (ha : At w a L) (hd : At w d M) (hl : L.length ≤ 9223372036854775807) (hm : M.length ≤ 9223372036854775807) :
    Calls Tryz.prog 20 #[.slice a L.length ca, .slice d M.length cd] w fun e w' => e = .returned (.bool (decide (L = M))) ∧ Below w.heap.size w w' := by
  have Ha := hid ha
  have Hd := hid hd
  clear ha hd
  obtain ⟨r, hr⟩ : ∃ r, Hid (decide (L = M) = r) := ⟨_, rfl⟩
  rw [hr.out]
  by_cases hlm : L.length = M.length
  · have e0 : ((L.length : Int) != (M.length : Int)) = false := by rw [hlm]; simp
    go_enter Tryz.func20, Tryz.ntmps20
    go_wp2
    go_loopw [13] (fun i w' => ∃ k : Nat, k ≤ L.length ∧ i = .int .i64 k ∧ Hid (L.take k = M.take k) ∧ Hid (Below w.heap.size w w')) (fun i _ => L.length - (intOf i).toNat)
    case atStart => exact ⟨0, by omega, rfl, hid rfl, hid (Below.refl _ _)⟩
    case round =>
      obtain ⟨k, hk, rfl, hq, hw'⟩ := hrel
      by_cases hlt : k < L.length
      · have b0 : (k : Int) < (L.length : Int) := by omega
        have b1 : (k : Int) < (M.length : Int) := by omega
        obtain ⟨x, rfl, xb, hx⟩ := Ha.out k L[k] (List.getElem?_eq_getElem hlt)
        rw [← hw'.out.cell (p := x.add k) (by rw [addr_block]; exact xb)] at hx
        obtain ⟨y, rfl, yb, hy⟩ := Hd.out k (M[k]'(by omega)) (List.getElem?_eq_getElem (by omega))
        rw [← hw'.out.cell (p := y.add k) (by rw [addr_block]; exact yb)] at hy
        clear yb xb
        rw [svS] at hx hy
        by_cases he : L[k] = M[k]'(by omega)
        · have hq' := hid (take_next hq.out hlt (by omega) he)
          rw [← he] at hy
          generalize ByteArray.mk (L[k]).toArray = p at *
          have y1 : (p.toList == p.toList) = true := by simp
          have y2 : (p.toList != p.toList) = false := by simp
          clear hq he
          go_wp2
          go_quiet (fail)
          go_wp2
          exact ⟨⟨k + 1, by omega, by go_num, hq', hid (below_drewN hw'.out _)⟩, by simp [intOf]; omega⟩
        · obtain rfl : r = false := by
            rw [← hr.out, decide_eq_false_iff_not]
            intro e
            subst e
            exact he rfl
          have hne : (L[k] == M[k]'(by omega)) = false := by simpa using he
          generalize hp : L[k] = p at *
          generalize hq2 : (M[k]'(by omega)) = q at *
          clear hq he hr
          have y1 : ((ByteArray.mk p.toArray).toList == (ByteArray.mk q.toArray).toList) = false := by rw [ByteArray.toList_eq, ByteArray.toList_eq]; exact hne
          have y2 : ((ByteArray.mk p.toArray).toList != (ByteArray.mk q.toArray).toList) = true := by rw [bne, y1]; rfl
          go_wp2
          go_quiet (fail)
          go_wp2
          go_ret
          exact ⟨rfl, below_drewN hw'.out _⟩
      · have b0 : ¬ (k : Int) < (L.length : Int) := by omega
        obtain rfl : r = true := by
          rw [← hr.out, decide_eq_true_iff]
          have := hq.out
          rwa [List.take_of_length_le (by omega), List.take_of_length_le (by omega)] at this
        go_wp2
        go_ret
        exact ⟨rfl, hw'.out⟩
  · have e0 : ((L.length : Int) != (M.length : Int)) = true := by
      have : ¬ (L.length : Int) = (M.length : Int) := by omega
      simpa using this
    obtain rfl : r = false := by
      rw [← hr.out, decide_eq_false_iff_not]
      intro e
      subst e
      exact hlm rfl
    go_enter Tryz.func20, Tryz.ntmps20
    go_wp2
    go_ret
    exact ⟨rfl, Below.refl _ _⟩
end Go.Proofs.YthoekndjeclimaaGreatDoor

namespace Go.Proofs.YthoekndjeclimaaGreatDoor
open Go.RowKit
/-- a list of hashes that Root takes -/
def Okl (l : List (List UInt8)) : Prop := Tree.Hs l ∧ l.length ≤ 4096
theorem Okl.wrg {l : List (List UInt8)} (h : Okl l) : wrg l = 0 := by
  unfold Go.Proofs.YthoekndjeclimaaGreatDoor.wrg
  rw [if_neg (by have := h.2; omega), if_pos]
  rw [List.all_eq_true]
  intro x hx
  simpa using h.1 x hx
theorem Okl.of {l : List (List UInt8)} (h : Go.Proofs.YthoekndjeclimaaGreatDoor.wrg l = 0) : Okl l := by
  unfold Go.Proofs.YthoekndjeclimaaGreatDoor.wrg at h
  split at h
  · cases h
  · rename_i h1
    split at h
    · rename_i h2
      rw [List.all_eq_true] at h2
      exact ⟨fun x hx => by simpa using h2 x hx, by omega⟩
    · cases h
theorem Okl.out {l : List (List UInt8)} (h : Okl l) : rootOut l = (Tree.root l, 0) := by unfold rootOut; rw [if_pos h.wrg]
theorem Okl.take {l : List (List UInt8)} (h : Okl l) (k : Nat) : Okl (l.take k) := ⟨h.1.take k, by rw [List.length_take]; have := h.2; omega⟩
theorem Okl.drop {l : List (List UInt8)} (h : Okl l) (k : Nat) : Okl (l.drop k) := ⟨h.1.drop k, by rw [List.length_drop]; have := h.2; omega⟩
set_option maxRecDepth 100000 in
set_option maxHeartbeats 1600000 in
theorem partsText_any (L : List (List UInt8)) (k : Nat) (x : Addr) (cap : Nat) (w : World) (hL : Okl L) (h1 : 0 < k) (h2 : k < L.length) (hc : L.length ≤ cap) (hc2 : cap ≤ 9223372036854775807) (hA : At w (some x) L) (T : Tabs w) {t : List UInt8} (ht : Hid (Tree.nt (Tree.root (L.take k)) (Tree.root (L.drop k)) = t)) :
    Calls Tryz.prog 55 #[.slice (some x) L.length cap, .int .i64 (k : Int)] w fun e w' => e = .returned (sv t) ∧ Below w.heap.size w w' := by
  have l1 : (L.take k).length = k := by rw [List.length_take]; omega
  have l2 : (L.drop k).length = L.length - k := by rw [List.length_drop]
  have i1 := Root_any (L.take k) (some x) cap w (by omega) hc2 (hA.take k) T
  have i2 := fun w' (hA' : At w' (some x) L) (T' : Tabs w') => Root_any (L.drop k) (some (x.add k)) (cap - k) w' (by omega) (by omega) (hA'.drop k) T'
  rw [(hL.take k).out, l1] at i1
  rw [(hL.drop k).out, l2] at i2
  have HA := hid hA
  have HT := hid T
  obtain ⟨ra, hra⟩ : ∃ ra, Hid (Tree.root (L.take k) = ra) := ⟨_, rfl⟩
  obtain ⟨rb, hrb⟩ : ∃ rb, Hid (Tree.root (L.drop k) = rb) := ⟨_, rfl⟩
  rw [hra.out, svS] at i1
  rw [hrb.out, svS] at i2
  rw [hra.out, hrb.out] at ht
  have e1 : ra.length = 32 := by rw [← hra.out]; exact Tree.root_len (hL.1.take k)
  have e2 : rb.length = 32 := by rw [← hrb.out]; exact Tree.root_len (hL.1.drop k)
  have s1 : ¬ 9223372036854775807 < 1 + ra.length := by omega
  have s2 : ¬ 9223372036854775807 < 1 + ra.length + rb.length := by omega
  clear hA T hL l1 l2 hra hrb
  generalize L.length = n at *
  have m1 : (k : Int) ≤ (n : Int) := by omega
  have m2 : (k : Int) ≤ (cap : Int) := by omega
  go_enter Tryz.func55, Tryz.ntmps55
  go_wp2_with (go_at_call 16; fail)
  refine i1.mono ?_
  rintro e w1 ⟨rfl, b1⟩
  have i2 := i2 w1 (HA.out.below b1 (Nat.le_refl _)) (HT.out.below b1 HT.out.lt)
  clear i1
  go_wp2_with (go_at_call 16; fail)
  refine i2.mono ?_
  rintro e w2 ⟨rfl, b2⟩
  have hv : Value.string ({ data := #[1] } ++ { data := ra.toArray } ++ { data := rb.toArray }) = sv t := by
    rw [← ht.out]
    unfold sv Tree.nt
    congr 1
  go_wp2
  go_ret
  exact ⟨hv ▸ rfl, b1.trans (b2.mono b1.size)⟩
end Go.Proofs.YthoekndjeclimaaGreatDoor

namespace Go.Proofs.YthoekndjeclimaaGreatDoor
open Go.RowKit
/-- where a walk stands -/
abbrev wy (p l : Nat) : Value := .agg #[.int .i64 (p : Int), .int .i64 (l : Int)]
theorem tdiv2 (k : Nat) : ((k : Int).tdiv 2) = ((k / 2 : Nat) : Int) := by rw [Int.tdiv_eq_ediv_of_nonneg (by omega)]; omega
theorem wrap2 (k : Nat) (h : k < 9223372036854775808) : IntKind.i64.wrap ((k / 2 : Nat) : Int) = ((k / 2 : Nat) : Int) := wrap_small _ (by omega) (by omega)
theorem sizeW : (Tryz.prog.info? 93).map (·.size) = some 2 := by kernel_rfl
theorem sizeW' (a b : Value) : (Tryz.prog.info? 93).map (·.size) = some #[a, b].size := sizeW
theorem oneW (a b : Int) : (#[Value.int .i64 a, Value.int .i64 b].all (·.oneCell')) = true := all_oneCell_toArray (cs := [Value.int .i64 a, Value.int .i64 b]) fun v hv => by
  simp only [List.mem_cons, List.not_mem_nil, or_false] at hv
  rcases hv with rfl | rfl <;> rfl
/-- a walk's variable -/
def Wy (w : World) (g p l : Nat) : Prop := w.heap[g]? = some (.cells #[.int .i64 (p : Int), .int .i64 (l : Int)] 93 (0, 0))
theorem Wy.row {w : World} {g p l : Nat} (h : Wy w g p l) : w.heap[g]? = some (.cells #[.int .i64 (p : Int), .int .i64 (l : Int)] 93 (0, 0)) := h
theorem Wy.c0 {w : World} {g p l : Nat} (h : Wy w g p l) : w.cell? ⟨g, 0, none⟩ = some (.int .i64 (p : Int)) := by rw [cell_of_row w g 0 _ _ _ h]; rfl
theorem Wy.c1 {w : World} {g p l : Nat} (h : Wy w g p l) : w.cell? ⟨g, 1, none⟩ = some (.int .i64 (l : Int)) := by rw [cell_of_row w g 1 _ _ _ h]; rfl
theorem Wy.below {w w' : World} {g p l : Nat} (h : Wy w g p l) (hb : Below w.heap.size w w') : Wy w' g p l := (hb.block g (lt_of_heap h)).trans h
theorem Wy.set {w : World} {g p l : Nat} (h : Wy w g p l) (p' l' : Nat) : Wy (w.setRow g #[.int .i64 (p' : Int), .int .i64 (l' : Int)]) g p' l' := setRow_heap _ _ _ _ _ _ h
theorem Wy.setO {w : World} {g p l k : Nat} (h : Wy w g p l) (cs : Array Value) (hk : k ≠ g) : Wy (w.setRow k cs) g p l := (setRow_other w k g cs (Ne.symm hk)).trans h
theorem Wy.new (w : World) (p l : Nat) : Wy (w.alloc (.cells #[.int .i64 (p : Int), .int .i64 (l : Int)] 93)) w.heap.size p l := heap_alloc_new w _
def numAt (w : World) (g i : Nat) : Nat := match w.cell? ⟨g, i, none⟩ with | some (.int _ n) => n.toNat | _ => 0
theorem Wy.n0 {w : World} {g p l : Nat} (h : Wy w g p l) : numAt w g 0 = p := by unfold numAt; rw [h.c0]; exact Int.toNat_natCast _
theorem Wy.n1 {w : World} {g p l : Nat} (h : Wy w g p l) : numAt w g 1 = l := by unfold numAt; rw [h.c1]; exact Int.toNat_natCast _
set_option maxRecDepth 100000 in
set_option maxHeartbeats 2000000 in
theorem halved_any (p l : Nat) (hp : p < 9223372036854775808) (hl : l < 9223372036854775808) (w : World) :
    Calls Tryz.prog 108 #[wy p l] w fun e w' => e = .returned (wy (p / 2) (l / 2)) ∧ Below w.heap.size w w' := by
  have e1 := tdiv2 p
  have e2 := tdiv2 l
  have e3 := wrap2 p hp
  have e4 := wrap2 l hl
  go_enter Tryz.func108, Tryz.ntmps108
  go_wp2
  refine bodyPost_ret (v := wy (p / 2) (l / 2)) (results_cell_row rfl _ _ (w.heap.size + 1) 93 _ (0, 0) _ rfl (heap_alloc_at _ _ _ (size_alloc w _)) Tryz.underlying93 rfl sizeW) rfl ⟨rfl, ?_⟩
  exact ((Below.refl _ _).alloc (Nat.le_refl _) _).alloc (by rw [size_alloc]; omega) _
set_option maxRecDepth 100000 in
set_option maxHeartbeats 2000000 in
theorem fromLeft_any (p l : Nat) (hp : p < 9223372036854775808) (hl : l < 9223372036854775808) (w : World) :
    Calls Tryz.prog 94 #[wy p l] w fun e w' => e = .returned (.bool (p % 2 == 1 || p == l)) ∧ Below w.heap.size w w' := by
  have e1 : (p : Int).tmod 2 = ((p % 2 : Nat) : Int) := by rw [Int.tmod_eq_emod_of_nonneg (by omega)]; omega
  have e2 : IntKind.i64.wrap ((p % 2 : Nat) : Int) = ((p % 2 : Nat) : Int) := wrap_small _ (by omega) (by omega)
  by_cases ho : p % 2 = 1
  · have b0 : (((p % 2 : Nat) : Int) == 1) = true := by rw [ho]; rfl
    have e := hid (show (p % 2 == 1 || p == l) = true by simp [ho])
    go_enter Tryz.func94, Tryz.ntmps94
    go_wp2
    go_ret
    exact ⟨by rw [e.out]; rfl, (Below.refl _ _).alloc (Nat.le_refl _) _⟩
  · have b0 : (((p % 2 : Nat) : Int) == 1) = false := by simp; omega
    have b9 : ((p : Int) % 2 == 1) = false := by simp; omega
    have b8 : ¬ (p : Int) % 2 = 1 := by omega
    by_cases h : p = l
    · subst h
      have e := hid (show (p % 2 == 1 || p == p) = true by simp)
      go_enter Tryz.func94, Tryz.ntmps94
      go_wp2
      go_ret
      exact ⟨by rw [e.out]; rfl, (Below.refl _ _).alloc (Nat.le_refl _) _⟩
    · have e := hid (show (p % 2 == 1 || p == l) = false by simp [ho, h])
      have b1 : ((p : Int) == (l : Int)) = false := by simp; omega
      go_enter Tryz.func94, Tryz.ntmps94
      go_wp2
      go_ret
      exact ⟨by rw [e.out]; rfl, (Below.refl _ _).alloc (Nat.le_refl _) _⟩
set_option maxRecDepth 100000 in
set_option maxHeartbeats 2000000 in
theorem above_any (p l : Nat) (hp : p ≤ l) (h0 : l ≠ 0) (hl : l < 9223372036854775808) (w : World) :
    Calls Tryz.prog 96 #[wy p l] w fun e w' => ∃ p' l', e = .returned (wy p' l') ∧ Below w.heap.size w w' ∧ p' ≤ l' ∧ l' < l ∧ Hid (Tree.U p l = (p % 2 == 1 || p == l) :: Tree.U p' l') := by
  by_cases h : p = l
  · subst h
    have c0 := Wy.new w p p
    go_enter Tryz.func96, Tryz.ntmps96
    go_wp2
    go_loopw [] (fun w' => ∃ x : Nat, x ≠ 0 ∧ x ≤ p ∧ Hid (Tree.U p p = Tree.U x x) ∧ Hid (Wy w' w.heap.size x x) ∧ Hid (Wy w' (w.heap.size + 1) 0 0) ∧ Hid (Below w.heap.size w w')) (fun w' => numAt w' w.heap.size 0)
    case atStart =>
      have s1 := size_alloc w (.cells #[Value.int .i64 (p : Int), Value.int .i64 (p : Int)] 93)
      exact ⟨p, h0, Nat.le_refl _, rfl, (Below.heap_alloc _ _ _ (by omega)).trans (Wy.new w p p), heap_alloc_at _ _ _ s1, ((Below.refl _ _).alloc (Nat.le_refl _) _).alloc (by omega) _⟩
    case round =>
      obtain ⟨x, hx0, hxp, hU, hW, hR, hB⟩ := hrel
      have c0 := hW.out.c0
      have c1 := hW.out.c1
      have lt1 := lt_of_heap hW.out
      by_cases ho : x % 2 = 0
      · have b0 : (x : Int) % 2 = 0 := by omega
        have b1 : ((x : Int) % 2 == 0) = true := by simp; omega
        have b2 : ((x : Int) != 0) = true := by simp; omega
        have b3 : ((x : Int) == 0) = false := by simp; omega
        have hc := halved_any x x (by omega) (by omega) wr
        go_wp2_with (first
          | ((with_reducible show wpList _ _ _ (Oper.mk _ (Op.load 93 _) _ _ _ _ :: _) _ _); go_must (refine wpList_load_row rfl 93 _ rfl w.heap.size rfl 93 _ (0, 0) _ hW.out.row Tryz.underlying93 rfl (sizeW' _ _) ?_))
          | (go_at_call 108; refine hc.mono ?_; rintro e w1 ⟨rfl, hw1⟩)
          | ((with_reducible show wpList _ _ _ (Oper.mk _ (Op.store 93 _ _) _ _ _ _ :: _) _ _); go_must (refine wpList_store_row rfl 93 _ _ rfl w.heap.size _ rfl rfl 93 _ (hW.out.below hw1).row (sizeW' _ _) rfl (oneW _ _) ?_)))
        have hW1 := (hW.out.below hw1).set (x / 2) (x / 2)
        have hm : numAt (w1.setRow w.heap.size #[.int .i64 ((x / 2 : Nat) : Int), .int .i64 ((x / 2 : Nat) : Int)]) w.heap.size 0 < numAt wr w.heap.size 0 := by rw [hW1.n0, hW.out.n0]; omega
        refine ⟨?_, hm⟩
        repeat apply Exists.intro
        exact ⟨⟨x / 2, by omega, by omega, hid (hU.out.trans (Tree.U_skip hx0 ho)), hid hW1, hid ((hR.out.below hw1).setO _ (by omega)), hid (Below.setRow (hB.out.trans (hw1.mono hB.out.size)) (Nat.le_refl _) _)⟩, rfl⟩
      · have b0 : ¬ (x : Int) % 2 = 0 := by omega
        have b1 : ((x : Int) % 2 == 0) = false := by simp; omega
        have hc := halved_any x x (by omega) (by omega) wr
        go_wp2_with (first
          | ((with_reducible show wpList _ _ _ (Oper.mk _ (Op.load 93 _) _ _ _ _ :: _) _ _); go_must (refine wpList_load_row rfl 93 _ rfl w.heap.size rfl 93 _ (0, 0) _ hW.out.row Tryz.underlying93 rfl (sizeW' _ _) ?_))
          | (go_at_call 108; refine hc.mono ?_; rintro e w1 ⟨rfl, hw1⟩)
          | ((with_reducible show wpList _ _ _ (Oper.mk _ (Op.store 93 _ _) _ _ _ _ :: _) _ _); go_must (refine wpList_store_row rfl 93 _ _ rfl (w.heap.size + 1) _ rfl rfl 93 _ (hR.out.below hw1).row (sizeW' _ _) rfl (oneW _ _) ?_)))
        refine bodyPost_ret (v := wy (x / 2) (x / 2)) (results_cell_row rfl _ _ (w.heap.size + 1) 93 _ (0, 0) _ rfl ((hR.out.below hw1).set (x / 2) (x / 2)).row Tryz.underlying93 rfl sizeW) rfl ⟨x / 2, x / 2, rfl, ?_, Nat.le_refl _, by omega, ?_⟩
        · exact Below.setRow (hB.out.trans (hw1.mono hB.out.size)) (by omega) _
        · refine hid (hU.out.trans ?_)
          rw [Tree.U_step hx0 (by omega), show (x % 2 == 1) = true by simp; omega]
          simp
  · have b0 : ((p : Int) == (l : Int)) = false := by simp; omega
    have e := hid (show Tree.U p l = (p % 2 == 1 || p == l) :: Tree.U (p / 2) (l / 2) by rw [Tree.U_step h0 (by omega), show (p == l) = false by simpa using h, Bool.or_false])
    have hc := halved_any p l (by omega) hl
    have s1 := size_alloc w (.cells #[Value.int .i64 (p : Int), Value.int .i64 (l : Int)] 93)
    have hB : Hid (Below w.heap.size w ((w.alloc (.cells #[Value.int .i64 (p : Int), Value.int .i64 (l : Int)] 93)).alloc (.cells #[Value.int .i64 0, Value.int .i64 0] 93))) := ((Below.refl _ _).alloc (Nat.le_refl _) _).alloc (by omega) _
    have hR : Hid (Wy ((w.alloc (.cells #[Value.int .i64 (p : Int), Value.int .i64 (l : Int)] 93)).alloc (.cells #[Value.int .i64 0, Value.int .i64 0] 93)) (w.heap.size + 1) 0 0) := heap_alloc_at _ _ _ s1
    clear s1
    go_enter Tryz.func96, Tryz.ntmps96
    go_wp2_with (first
      | (go_at_call 108; refine (hc _).mono ?_; rintro e w1 ⟨rfl, hw1⟩)
      | ((with_reducible show wpList _ _ _ (Oper.mk _ (Op.store 93 _ _) _ _ _ _ :: _) _ _); go_must (refine wpList_store_row rfl 93 _ _ rfl (w.heap.size + 1) _ rfl rfl 93 _ (hR.out.below hw1).row (sizeW' _ _) rfl (oneW _ _) ?_)))
    refine bodyPost_ret (v := wy (p / 2) (l / 2)) (results_cell_row rfl _ _ (w.heap.size + 1) 93 _ (0, 0) _ rfl ((hR.out.below hw1).set (p / 2) (l / 2)).row Tryz.underlying93 rfl sizeW) rfl ⟨p / 2, l / 2, rfl, ?_, by omega, by omega, e⟩
    exact Below.setRow (hB.out.trans (hw1.mono hB.out.size)) (by omega) _
end Go.Proofs.YthoekndjeclimaaGreatDoor
