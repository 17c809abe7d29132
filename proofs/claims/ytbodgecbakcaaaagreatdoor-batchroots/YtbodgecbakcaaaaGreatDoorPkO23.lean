import Derived.Test.YtbodgecbakcaaaaGreatDoorPkR5
import Derived.Deep.RegionLaw
namespace Go.Proofs.YtbodgecbakcaaaaGreatDoor.Tree
def cnt (p : Nat) (is : List Nat) : Nat := (is.takeWhile (fun i => decide (i < p))).length
theorem cnt_of (p : Nat) : ∀ (is : List Nat) (k : Nat), k ≤ is.length → (∀ j x, j < k → is[j]? = some x → x < p) → (∀ x, is[k]? = some x → ¬ x < p) → cnt p is = k
  | [], k, h, _, _ => by simp at h; subst h; rfl
  | i :: is, 0, _, _, h => by
    have := h i rfl
    simp [cnt, this]
  | i :: is, k + 1, hk, h1, h2 => by
    have hi := h1 0 i (by omega) rfl
    have := cnt_of p is k (by simpa using hk) (fun j x hj hx => h1 (j + 1) x (by omega) (by simpa using hx)) (fun x hx => h2 x (by simpa using hx))
    rw [cnt] at this ⊢
    rw [List.takeWhile_cons_of_pos (by simpa using hi), List.length_cons, this]
theorem cnt_le (p : Nat) (is : List Nat) : cnt p is ≤ is.length := by
  induction is with
  | nil => simp [cnt]
  | cons i is ih =>
    by_cases h : i < p
    · rw [cnt] at ih ⊢; rw [List.takeWhile_cons_of_pos (by simpa using h)]; simpa using ih
    · rw [cnt, List.takeWhile_cons_of_neg (by simpa using h)]; simp
theorem cnt_take (p : Nat) : ∀ (is : List Nat), is.Pairwise (· < ·) → is.take (cnt p is) = is.filter (· < p)
  | [], _ => rfl
  | i :: is, hp => by
    rw [List.pairwise_cons] at hp
    by_cases h : i < p
    · rw [cnt, List.takeWhile_cons_of_pos (by simpa using h), List.length_cons, List.take_succ_cons, List.filter_cons_of_pos (by simpa using h)]
      congr 1
      exact cnt_take p is hp.2
    · rw [cnt, List.takeWhile_cons_of_neg (by simpa using h)]
      symm
      rw [List.length_nil, List.take_zero, List.filter_eq_nil_iff]
      intro x hx
      rcases List.mem_cons.1 hx with rfl | hx
      · simpa using h
      · have := hp.1 x hx
        simp; omega
end Go.Proofs.YtbodgecbakcaaaaGreatDoor.Tree
namespace Go.Proofs.YtbodgecbakcaaaaGreatDoor
open Go.RowKit
def ix (is : List Nat) : List Int := is.map fun (i : Nat) => (i : Int)
theorem ix_len (is : List Nat) : (ix is).length = is.length := by simp [ix]
theorem AtI.nil (w : World) (a : Option Addr) : AtI w a [] := fun j p h => by simp at h
theorem AtI.heap {w w' : World} {a : Option Addr} {l : List Int} (h : AtI w a l) (e : w'.heap = w.heap) : AtI w' a l := fun j p hp => by
  obtain ⟨x, rfl, hx, hc⟩ := h j p hp
  refine ⟨x, rfl, by rw [e]; exact hx, ?_⟩
  rw [← hc]
  exact World.cell?_of_block (w := w) (by rw [e])
end Go.Proofs.YtbodgecbakcaaaaGreatDoor

namespace Go.Proofs.YtbodgecbakcaaaaGreatDoor
open Go.RowKit
theorem append_zero (w : World) (x : Value) (hs : Src Tryz.prog 1 23 x 0 [] w) :
    (Builtin.append_ #[23, 23] 23 #[.slice none 0 0, x]).run Tryz.prog w = .ok (.slice none 0 0) w := by
  obtain ⟨i0, hi, hz0, hz1, hz2⟩ := info_parts infoS
  have hc := hs.cells
  rw [← hz1] at hc
  simp [Builtin.append_, run_underlying Tryz.underlying23, sizeOf, typeInfo, hi, hs.len, hc]
theorem svs_one {L : List (List UInt8)} {v : Value} (h : v ∈ svs L) : v.oneCell' = true := by
  simp only [svs, List.mem_map] at h
  obtain ⟨n, _, rfl⟩ := h
  rfl
theorem append_list (w : World) (base base2 : Nat) (v v2 : Value) (L L2 : List (List UInt8)) (hown : Own w base v (svs L)) (hown2 : Own w base2 v2 (svs L2)) (hlen : L.length + L2.length ≤ 2000000) (hbase : base ≤ w.heap.size) :
    ∃ v' w', (Builtin.append_ #[23, 23] 23 #[v, v2]).run Tryz.prog w = .ok v' w' ∧ Own w' base v' (svs (L ++ L2)) ∧ Below base w w' := by
  obtain ⟨i0, hi, hz0, hz1, hz2⟩ := info_parts infoS
  have hsrc : Src Tryz.prog 1 23 v2 L2.length (svs L2) w := by
    rcases hown2 with ⟨rfl, h⟩ | ⟨g, cap, rfl, h1, h2, h3, h4, h5, h6⟩
    · obtain rfl : L2 = [] := by simpa [svs] using h
      exact Src.ofNil w Tryz.underlying23 0
    · rw [svs_length]
      exact Src.ofSlice w Tryz.underlying23 ⟨g, 0, none⟩ L2.length cap (svs L2) (by rw [svs_length, Nat.mul_one]) (fun j u hj => by rw [Addr.add_mid]; exact h4 j u hj) (fun u hu => svs_one hu)
  by_cases h0 : v = .slice none 0 0 ∧ L2.length = 0
  · obtain ⟨rfl, h0⟩ := h0
    obtain rfl : L2 = [] := List.length_eq_zero_iff.1 h0
    have hL : L = [] := by
      rcases hown with ⟨_, h⟩ | ⟨g, cap, h, _⟩
      · simpa [svs] using h
      · cases h
    subst hL
    exact ⟨_, w, append_zero w v2 hsrc, Own.nil _ _, Below.refl _ _⟩
  · obtain ⟨v', w', h1, h2, h3, h4⟩ := run_append_O (P := Tryz.prog) w base 23 23 23 9 i0 (.string ⟨#[]⟩) Tryz.underlying23 hi hz0 hz1 rfl v (svs L) hown v2 L2.length (svs L2) hsrc
      (by rw [svs_length, hz2]; omega) (by rw [svs_length, maxLen]; omega) hbase (fun e => by
        have : ¬ L2.length = 0 := fun h => h0 ⟨e, h⟩
        omega)
    exact ⟨v', w', h1, by simpa [svs] using h2, Below.ofGrown h3 hown.ge hbase⟩
theorem step_append_run {P : Program} {ops : Array Oper} {o : Oper} {a : Act} {w : World} {K : Act → World → Prop} {Q : Exit → Act → World → Prop} {E : Prop}
    (hg : o.guard = none) (s x : Operand) (t : TypeId) (hop : o.op = Op.call { callee := Callee.builtin Builtin.append, args := #[s, x], argTypes := #[t, t] })
    (v1 v2 v' : Value) (w' : World) (hs : a.eval s = v1) (hx : a.eval x = v2) (hrun : (Builtin.append_ #[t, t] o.type #[v1, v2]).run P w = .ok v' w') (hK : K (a.put o.dst v') w') :
    if Region.wanted o (yielded ops a.tmps) = true then Oper.wp P o a w K Q else E := by
  have hw : Region.wanted o (yielded ops a.tmps) = true := by simp [Region.wanted, hg]
  rw [if_pos hw]
  unfold Oper.wp
  simp [execOp, hop, resolve, invoke, builtin, hs, hx, hrun, Result.andThen]
  exact hK
end Go.Proofs.YtbodgecbakcaaaaGreatDoor

namespace Go.Proofs.YtbodgecbakcaaaaGreatDoor
open Go.RowKit
structure OkI (n : Nat) (cs : List Int) : Prop where
  pos : 0 < cs.length
  few : cs.length ≤ 256
  leaf : ∀ (j : Nat) (x : Int), cs[j]? = some x → 0 ≤ x ∧ x < n
  rise : ∀ (j : Nat) (x y : Int), cs[j]? = some x → cs[j + 1]? = some y → x < y
def toN (cs : List Int) : List Nat := cs.map Int.toNat
end Go.Proofs.YtbodgecbakcaaaaGreatDoor

namespace Go.Proofs.YtbodgecbakcaaaaGreatDoor
open Go.RowKit
open Classical in
noncomputable def manyOut (l : List (List UInt8)) (cs : List Int) : List (List UInt8) × Int := if wrg l = 0 then (if OkI l.length cs then (Tree.many (toN cs) 0 l, 0) else ([], 30)) else ([], wrg l)
end Go.Proofs.YtbodgecbakcaaaaGreatDoor

namespace Go.Proofs.YtbodgecbakcaaaaGreatDoor.Tree
def up (h : T) (zs : List (Bool × T)) : T := zs.foldl (fun h z => if z.1 then nd h z.2 else nd z.2 h) h
def dg (x : Nat) : Nat := if x = 0 then 0 else x.log2 + 1
theorem dg_le {x L : Nat} (h : x < 2 ^ L) : dg x ≤ L := by
  unfold dg
  split
  · omega
  · rename_i h0
    have := (Nat.log2_lt h0).2 h
    omega
end Go.Proofs.YtbodgecbakcaaaaGreatDoor.Tree

namespace Go.Proofs.YtbodgecbakcaaaaGreatDoor
open Go.RowKit
set_option maxRecDepth 100000 in
set_option maxHeartbeats 800000 in
theorem same_yes (l : List (List UInt8)) (a d : Option Addr) (ca cd : Nat) (w : World) (ha : At w a l) (hd : At w d l) (hll : l.length ≤ 9223372036854775807) :
    Calls Tryz.prog 24 #[.slice a l.length ca, .slice d l.length cd] w fun e w' => e = .returned (.bool true) ∧ Below w.heap.size w w' ∧ w'.heap = w.heap := by
  have Ha := hid ha
  have Hd := hid hd
  clear ha hd
  go_enter Tryz.func24, Tryz.ntmps24
  go_wp2
  go_loopw [5] (fun i w' => ∃ k : Nat, k ≤ l.length ∧ i = .int .i64 k ∧ Hid (Below w.heap.size w w' ∧ w'.heap = w.heap)) (fun i _ => l.length - (intOf i).toNat)
  case atStart => exact ⟨0, by omega, rfl, hid ⟨Below.refl _ _, rfl⟩⟩
  case round =>
    obtain ⟨k, hk, rfl, hw'⟩ := hrel
    by_cases hlt : k < l.length
    · have b0 : (k : Int) < (l.length : Int) := by omega
      obtain ⟨x, rfl, xb, hx⟩ := Ha.out k l[k] (List.getElem?_eq_getElem hlt)
      rw [← hw'.out.1.cell (p := x.add k) (by rw [addr_block]; exact xb)] at hx
      clear xb
      obtain ⟨y, rfl, yb, hy⟩ := Hd.out k l[k] (List.getElem?_eq_getElem hlt)
      rw [← hw'.out.1.cell (p := y.add k) (by rw [addr_block]; exact yb)] at hy
      clear yb
      rw [svS] at hx hy
      generalize ByteArray.mk (l[k]).toArray = p at *
      have y1 : (p.toList == p.toList) = true := by simp
      have y2 : (p.toList != p.toList) = false := by simp
      go_wp2
      go_quiet (fail)
      go_wp2
      exact ⟨⟨k + 1, by omega, by go_num, hid ⟨below_drewN hw'.out.1 _, hw'.out.2⟩⟩, by simp [intOf]; omega⟩
    · have b0 : ¬ (k : Int) < (l.length : Int) := by omega
      go_wp2
      go_ret
      exact ⟨rfl, hw'.out.1, hw'.out.2⟩
end Go.Proofs.YtbodgecbakcaaaaGreatDoor

namespace Go.Proofs.YtbodgecbakcaaaaGreatDoor
open Go.RowKit
set_option maxRecDepth 100000 in
set_option maxHeartbeats 800000 in
theorem sameI_yes (l : List Int) (a d : Option Addr) (ca cd : Nat) (w : World) (ha : AtI w a l) (hd : AtI w d l) (hll : l.length ≤ 9223372036854775807) :
    Calls Tryz.prog 45 #[.slice a l.length ca, .slice d l.length cd] w fun e w' => e = .returned (.bool true) ∧ Below w.heap.size w w' ∧ w'.heap = w.heap := by
  have Ha := hid ha
  have Hd := hid hd
  clear ha hd
  go_enter Tryz.func45, Tryz.ntmps45
  go_wp2
  go_loopw [5] (fun i w' => ∃ k : Nat, k ≤ l.length ∧ i = .int .i64 k ∧ Hid (Below w.heap.size w w' ∧ w'.heap = w.heap)) (fun i _ => l.length - (intOf i).toNat)
  case atStart => exact ⟨0, by omega, rfl, hid ⟨Below.refl _ _, rfl⟩⟩
  case round =>
    obtain ⟨k, hk, rfl, hw'⟩ := hrel
    by_cases hlt : k < l.length
    · have b0 : (k : Int) < (l.length : Int) := by omega
      obtain ⟨x, rfl, xb, hx⟩ := Ha.out k l[k] (List.getElem?_eq_getElem hlt)
      rw [← hw'.out.1.cell (p := x.add k) (by rw [addr_block]; exact xb)] at hx
      clear xb
      obtain ⟨y, rfl, yb, hy⟩ := Hd.out k l[k] (List.getElem?_eq_getElem hlt)
      rw [← hw'.out.1.cell (p := y.add k) (by rw [addr_block]; exact yb)] at hy
      clear yb
      generalize l[k] = p at *
      have y1 : (p == p) = true := by simp
      have y2 : (p != p) = false := by simp
      go_wp2
      go_quiet (fail)
      go_wp2
      exact ⟨⟨k + 1, by omega, by go_num, hid ⟨below_drewN hw'.out.1 _, hw'.out.2⟩⟩, by simp [intOf]; omega⟩
    · have b0 : ¬ (k : Int) < (l.length : Int) := by omega
      go_wp2
      go_ret
      exact ⟨rfl, hw'.out.1, hw'.out.2⟩
set_option maxRecDepth 100000 in
set_option maxHeartbeats 800000 in
theorem reads_yes (n : Nat) (m : ByteArray) (a : Option Addr) (ca : Nat) (w : World) (ha : At w a (List.replicate n m.data.toList)) (hn : n ≤ 9223372036854775807) :
    Calls Tryz.prog 47 #[.slice a n ca, .string m] w fun e w' => e = .returned (.bool true) ∧ Below w.heap.size w w' ∧ w'.heap = w.heap := by
  have Ha := hid ha
  clear ha
  have y1 : (m.toList == m.toList) = true := by simp
  have y2 : (m.toList != m.toList) = false := by simp
  go_enter Tryz.func47, Tryz.ntmps47
  go_wp2
  go_loopw [5] (fun i w' => ∃ k : Nat, k ≤ n ∧ i = .int .i64 k ∧ Hid (Below w.heap.size w w' ∧ w'.heap = w.heap)) (fun i _ => n - (intOf i).toNat)
  case atStart => exact ⟨0, by omega, rfl, hid ⟨Below.refl _ _, rfl⟩⟩
  case round =>
    obtain ⟨k, hk, rfl, hw'⟩ := hrel
    by_cases hlt : k < n
    · have b0 : (k : Int) < (n : Int) := by omega
      obtain ⟨x, rfl, xb, hx⟩ := Ha.out k m.data.toList (by rw [List.getElem?_replicate, if_pos hlt])
      rw [← hw'.out.1.cell (p := x.add k) (by rw [addr_block]; exact xb)] at hx
      clear xb
      rw [svS, show ByteArray.mk m.data.toList.toArray = m from by cases m; simp] at hx
      go_wp2
      exact ⟨⟨k + 1, by omega, by go_num, hw'⟩, by simp [intOf]; omega⟩
    · have b0 : ¬ (k : Int) < (n : Int) := by omega
      go_wp2
      go_ret
      exact ⟨rfl, hw'.out.1, hw'.out.2⟩
theorem conv_two (n : Nat) (hn : n ≤ 255) (w : World) : (convert 64 9 (.slice (some ⟨w.heap.size, 0, none⟩) 2 2)).run Tryz.prog (w.alloc (.cells #[.int .u8 (n : Int), .int .u8 0] 5)) = .ok (sv [UInt8.ofNat n, 0]) (w.alloc (.cells #[.int .u8 (n : Int), .int .u8 0] 5)) := by
  refine run_conv_bytes (P := Tryz.prog) _ 64 9 5 w.heap.size 0 2 2 [UInt8.ofNat n, 0] rfl Tryz.underlying64 Tryz.underlying5 Tryz.underlying9 ?_
  intro j v hv
  have hX := heap_alloc_new w (.cells #[.int .u8 (n : Int), .int .u8 0] 5)
  match j, hv with
  | 0, hv =>
    have e : v = .int .u8 (n : Int) := by
      simp [bv] at hv
      rw [← hv]; congr 1; omega
    rw [e, cell_of_row _ _ _ _ _ _ hX]; rfl
  | 1, hv =>
    have e : v = .int .u8 0 := by simp [bv] at hv; rw [← hv]
    rw [e, cell_of_row _ _ _ _ _ _ hX]; rfl
  | j + 2, hv => simp [bv] at hv
set_option maxRecDepth 100000 in
set_option maxHeartbeats 800000 in
theorem mark_any (n : Nat) (hn : n ≤ 255) (w : World) :
    Calls Tryz.prog 46 #[.int .i64 n] w fun e w' => ∃ m : ByteArray, e = .returned (.string m) ∧ m.data.toList = [109, 97, 114, 107, UInt8.ofNat n, 0] ∧ Below w.heap.size w w' := by
  have hcv := conv_two n hn w
  have e0 : (n : Int) / 256 = 0 := by omega
  rw [svS] at hcv
  go_enter Tryz.func46, Tryz.ntmps46
  go_wp2
  go_ret
  exact ⟨_, rfl, by simp [ByteArray.data_append], (Below.refl _ _).alloc (Nat.le_refl _) _⟩
end Go.Proofs.YtbodgecbakcaaaaGreatDoor

namespace Go.Proofs.YtbodgecbakcaaaaGreatDoor
open Go.RowKit
theorem Own.lt {w : World} {base : Nat} {v : Value} {cs : List Value} (h : Own w base v cs) : ∀ g, v.ownBlock = some g → g < w.heap.size := by
  rcases h with ⟨rfl, _⟩ | ⟨g', cap, rfl, h1, h2, h3, h4, h5, h6⟩
  · intro g hg; cases hg
  · intro g hg; cases hg; exact h6
end Go.Proofs.YtbodgecbakcaaaaGreatDoor

namespace Go.Proofs.YtbodgecbakcaaaaGreatDoor
open Go.RowKit
theorem infoLS : (Tryz.prog.info? 23).map (fun i => (i.zero, i.size, i.bytes)) = some (some (.slice none 0 0), 1, 24) := by kernel_rfl
theorem append_row (w : World) (base : Nat) (v : Value) (cs : List Value) (a : Option Addr) (n cap : Nat) (hown : Own w base v cs) (hlen : cs.length ≤ 2000000) (hbase : base ≤ w.heap.size) :
    ∃ v' w', (Builtin.append_ #[41, 41] 41 #[v, .slice (some ⟨w.heap.size, 0, none⟩) 1 1]).run Tryz.prog (w.alloc (.cells #[.slice a n cap] 23)) = .ok v' w' ∧ Own w' base v' (cs ++ [.slice a n cap]) ∧ Below base w w' ∧
      w.grownBy w' v.ownBlock ∧ (v'.ownBlock = v.ownBlock ∨ v'.ownBlock = some (w.heap.size + 1)) := by
  obtain ⟨i0, hi, hz0, hz1, hz2⟩ := info_parts infoLS
  have hsrc : Src Tryz.prog 1 41 (.slice (some ⟨w.heap.size, 0, none⟩) 1 1) 1 [.slice a n cap] (w.alloc (.cells #[.slice a n cap] 23)) :=
    Src.ofSlice _ Tryz.underlying41 ⟨w.heap.size, 0, none⟩ 1 1 [.slice a n cap] (by simp) (fun j u hj => by
      rw [Addr.add_mid, cell_of_row _ _ _ _ _ _ (heap_alloc_new w _), Nat.zero_add]; simpa using hj) (fun u hu => by simp at hu; subst hu; rfl)
  obtain ⟨v', w', h1, h2, h3, h4⟩ := run_append_O (P := Tryz.prog) (w.alloc (.cells #[.slice a n cap] 23)) base 41 41 41 23 i0 (.slice none 0 0) Tryz.underlying41 hi hz0 hz1 rfl v cs (hown.alloc _) _ 1 [.slice a n cap] hsrc
    (by rw [hz2]; omega) (by rw [maxLen]; omega) (by rw [size_alloc]; omega) (fun _ => by omega)
  refine ⟨v', w', h1, h2, ((Below.refl base w).alloc hbase _).trans (Below.ofGrown h3 hown.ge (by rw [size_alloc]; omega)), ?_, by rw [size_alloc] at h4; exact h4⟩
  exact ⟨h3.os, h3.tape, h3.output, by have := h3.size; rw [size_alloc] at this; omega, fun k hk hne => (h3.block k (by rw [size_alloc]; omega) hne).trans (Below.heap_alloc w _ k hk)⟩
end Go.Proofs.YtbodgecbakcaaaaGreatDoor

namespace Go.Proofs.YtbodgecbakcaaaaGreatDoor
open Go.RowKit
structure Keep (S : Nat → Prop) (w w' : World) : Prop where
  os : w'.os = w.os
  tape : w'.tape = w.tape
  output : w'.output = w.output
  size : w.heap.size ≤ w'.heap.size
  block : ∀ k, k < w.heap.size → ¬ S k → w'.heap[k]? = w.heap[k]?
theorem Keep.refl (S : Nat → Prop) (w : World) : Keep S w w := ⟨rfl, rfl, rfl, Nat.le_refl _, fun _ _ _ => rfl⟩
theorem Keep.trans {S T : Nat → Prop} {w w1 w2 : World} (h : Keep S w w1) (k : Keep T w1 w2) (hT : ∀ j, j < w.heap.size → T j → S j) : Keep S w w2 :=
  ⟨k.os.trans h.os, k.tape.trans h.tape, k.output.trans h.output, Nat.le_trans h.size k.size, fun i hi hb => (k.block i (Nat.lt_of_lt_of_le hi h.size) (fun e => hb (hT i hi e))).trans (h.block i hi hb)⟩
theorem Keep.mono {S T : Nat → Prop} {w w' : World} (h : Keep S w w') (hT : ∀ j, j < w.heap.size → S j → T j) : Keep T w w' := ⟨h.os, h.tape, h.output, h.size, fun k hk hb => h.block k hk fun e => hb (hT k hk e)⟩
theorem Keep.ofBelow {S : Nat → Prop} {w w' : World} (h : Below w.heap.size w w') : Keep S w w' := ⟨h.os, h.tape, h.output, h.size, fun k hk _ => h.block k hk⟩
theorem Keep.ofGrown {S : Nat → Prop} {w w' : World} {row : Option Nat} (h : w.grownBy w' row) (hr : ∀ k, row = some k → S k) : Keep S w w' :=
  ⟨h.os, h.tape, h.output, h.size, fun k hk hs => h.block k hk fun e => hs (hr k e.symm)⟩
theorem Keep.ofSet {S : Nat → Prop} (w : World) (b o : Nat) (v : Value) (hb : S b) : Keep S w (w.setCell ⟨b, o, none⟩ v) :=
  ⟨rfl, rfl, rfl, by simp [World.setCell], fun k _ hs => Below.heap_setCell w _ v k (fun e => hs (e ▸ hb))⟩
theorem Own.keep {S : Nat → Prop} {w w' : World} {base : Nat} {v : Value} {cs : List Value} (h : Own w base v cs) (hb : Keep S w w') (hne : ∀ k, v.ownBlock = some k → ¬ S k) : Own w' base v cs := by
  refine h.kept hb.size fun g hg => hb.block g ?_ (hne g hg)
  rcases h with ⟨rfl, _⟩ | ⟨g', cap, rfl, h1, h2, h3, h4, h5, h6⟩
  · cases hg
  · cases hg; exact h6
theorem own_sl {w : World} {base : Nat} {v : Value} {cs : List Value} (h : Own w base v cs) : ∃ a n c, v = .slice a n c := by
  rcases h with ⟨rfl, _⟩ | ⟨g', cap, rfl, _⟩ <;> exact ⟨_, _, _, rfl⟩
structure Took (w w' : World) (X base : Nat) (vf vw vl vg vh u : Value) (FS WS : List Value) (L : List (List UInt8)) (vf' vw' c : Value) : Prop where
  row : w'.heap[X]? = some (.cells #[vf', vw', vl, vg, vh] 51 (0, 0))
  free : Own w' base vf' (FS ++ [u])
  was : Own w' base vw' (WS ++ [c])
  copy : Own w' w.heap.size c (svs L)
  keep : Keep (fun k => k = X ∨ vf.ownBlock = some k ∨ vw.ownBlock = some k) w w'
  srcF : ∀ k, vf'.ownBlock = some k → vf.ownBlock = some k ∨ w.heap.size ≤ k
  srcW : ∀ k, vw'.ownBlock = some k → vw.ownBlock = some k ∨ w.heap.size ≤ k
  apart : ∀ k, vf'.ownBlock = some k → vw'.ownBlock ≠ some k
  fresh : ∀ k, c.ownBlock = some k → k ≠ X ∧ vf'.ownBlock ≠ some k ∧ vw'.ownBlock ≠ some k
set_option maxRecDepth 100000 in
set_option maxHeartbeats 1600000 in
theorem takes_any (X base b2 : Nat) (vf vw vl vg vh : Value) (a : Option Addr) (n cap : Nat) (FS WS : List Value) (L : List (List UInt8)) (w : World) (hX : w.heap[X]? = some (.cells #[vf, vw, vl, vg, vh] 51 (0, 0)))
    (hf : Own w base vf FS) (hw : Own w base vw WS) (hu : Own w b2 (.slice a n cap) (svs L)) (hfl : FS.length ≤ 1000000) (hwl : WS.length ≤ 1000000) (hL : L.length ≤ 2000000) (hbase : base ≤ w.heap.size)
    (hFX : vf.ownBlock ≠ some X) (hWX : vw.ownBlock ≠ some X) (hFW : ∀ k, vf.ownBlock = some k → vw.ownBlock ≠ some k)
    (hU : ∀ k, (Value.slice a n cap).ownBlock = some k → k ≠ X ∧ vf.ownBlock ≠ some k ∧ vw.ownBlock ≠ some k) :
    Calls Tryz.prog 25 #[.pointer (some ⟨X, 0, none⟩), .slice a n cap] w fun r w' => r = .returned (.tuple #[]) ∧ ∃ vf' vw' c, Took w w' X base vf vw vl vg vh (.slice a n cap) FS WS L vf' vw' c := by
  have hXl : X < w.heap.size := lt_of_heap hX
  have c0 : w.cell? ⟨X, 0, none⟩ = some vf := by rw [cell_of_row _ _ _ _ _ _ hX]; rfl
  obtain ⟨vf', w1, hc1, o1, _, g1, s1⟩ := append_row w base vf FS a n cap hf (by omega) hbase
  have k1 : Keep (fun k => vf.ownBlock = some k) w w1 := Keep.ofGrown g1 (fun k hk => hk)
  have hX1 := (k1.block X hXl hFX).trans hX
  have f1 : w1.frozen? ⟨X, 0, none⟩ = false := frozen_of_row _ _ _ _ _ hX1
  have d0 : w1.cell? ⟨X, 0, none⟩ = some vf := by rw [cell_of_row _ _ _ _ _ _ hX1]; rfl
  have hX2 : (w1.setCell ⟨X, 0, none⟩ vf').heap[X]? = some (.cells #[vf', vw, vl, vg, vh] 51 (0, 0)) := heap_setCell_same w1 X 0 _ _ vf' hX1
  have k12 : Keep (fun k => k = X) w1 (w1.setCell ⟨X, 0, none⟩ vf') := Keep.ofSet w1 X 0 vf' rfl
  have fF : ∀ k, vf'.ownBlock = some k → vf.ownBlock = some k ∨ w.heap.size ≤ k := fun k hk => by
    rcases s1 with e | e
    · left; rw [← e]; exact hk
    · right; rw [e] at hk; injection hk with hk; omega
  have fFX : ∀ k, vf'.ownBlock = some k → k ≠ X := fun k hk e => by
    rcases fF k hk with h | h
    · exact hFX (e ▸ h)
    · omega
  have o2 := o1.keep k12 fFX
  have hu2 := (hu.keep k1 (fun k hk e => (hU k hk).2.1 e)).keep k12 (fun k hk => (hU k hk).1)
  have hw2 := (hw.keep k1 (fun k hk e => hFW k e hk)).keep k12 (fun k hk e => hWX (e ▸ hk))
  have K2 : Keep (fun k => k = X ∨ vf.ownBlock = some k) w (w1.setCell ⟨X, 0, none⟩ vf') := (k1.mono (fun _ _ h => .inr h)).trans k12 (fun _ _ h => .inl h)
  obtain ⟨w2, hw2e⟩ : ∃ w2, w1.setCell ⟨X, 0, none⟩ vf' = w2 := ⟨_, rfl⟩
  rw [hw2e] at hX2 o2 hu2 hw2 K2
  obtain ⟨wd, hwd⟩ : ∃ wd, w2.drew = wd := ⟨_, rfl⟩
  replace hX2 : wd.heap[X]? = some (.cells #[vf', vw, vl, vg, vh] 51 (0, 0)) := by rw [← hwd]; exact hX2
  replace o2 : Own wd base vf' (FS ++ [.slice a n cap]) := by rw [← hwd]; exact o2.drew
  replace hu2 : Own wd b2 (.slice a n cap) (svs L) := by rw [← hwd]; exact hu2.drew
  replace hw2 : Own wd base vw WS := by rw [← hwd]; exact hw2.drew
  replace K2 : Keep (fun k => k = X ∨ vf.ownBlock = some k) w wd := by rw [← hwd]; exact ⟨K2.os, K2.tape, K2.output, K2.size, K2.block⟩
  have sz2 := K2.size
  have c2 : wd.cell? ⟨X, 1, none⟩ = some vw := by rw [cell_of_row _ _ _ _ _ _ hX2]; rfl
  obtain ⟨c, w3, hc2, o3, b3⟩ := append_list wd wd.heap.size b2 (.slice none 0 0) (.slice a n cap) [] L (Own.nil _ _) hu2 (by simp; omega) (Nat.le_refl _)
  rw [List.nil_append] at o3
  have sz3 := b3.size
  have hX3 := (b3.block X (by omega)).trans hX2
  have c3 : w3.cell? ⟨X, 1, none⟩ = some vw := by rw [cell_of_row _ _ _ _ _ _ hX3]; rfl
  obtain ⟨a3, n3, cap3, rfl⟩ := own_sl o3
  have c3x : (w3.alloc (.cells #[.slice a3 n3 cap3] 23)).cell? ⟨X, 1, none⟩ = some vw := by
    rw [World.cell?_of_block (w := w3) (Below.heap_alloc w3 _ X (by omega))]; exact c3
  obtain ⟨vw', w4, hc3, o4, _, g4, s4⟩ := append_row w3 base vw WS a3 n3 cap3 (hw2.below b3 (Nat.le_refl _)) (by omega) (by omega)
  have k4 : Keep (fun k => vw.ownBlock = some k) w3 w4 := Keep.ofGrown g4 (fun k hk => hk)
  have hX4 := (k4.block X (by omega) hWX).trans hX3
  have f4 : w4.frozen? ⟨X, 1, none⟩ = false := frozen_of_row _ _ _ _ _ hX4
  have d4 : w4.cell? ⟨X, 1, none⟩ = some vw := by rw [cell_of_row _ _ _ _ _ _ hX4]; rfl
  have hX5 : (w4.setCell ⟨X, 1, none⟩ vw').heap[X]? = some (.cells #[vf', vw', vl, vg, vh] 51 (0, 0)) := heap_setCell_same w4 X 1 _ _ vw' hX4
  have k45 : Keep (fun k => k = X) w4 (w4.setCell ⟨X, 1, none⟩ vw') := Keep.ofSet w4 X 1 vw' rfl
  have hwlt := hw.lt
  have fW : ∀ k, vw'.ownBlock = some k → vw.ownBlock = some k ∨ w3.heap.size ≤ k := fun k hk => by
    rcases s4 with e | e
    · left; rw [← e]; exact hk
    · right; rw [e] at hk; injection hk with hk; omega
  have hlf := o2.lt
  have hge := o3.ge
  have res : Took w (w4.setCell ⟨X, 1, none⟩ vw') X base vf vw vl vg vh (.slice a n cap) FS WS L vf' vw' (.slice a3 n3 cap3) := by
    refine ⟨hX5, ?_, ?_, ?_, ?_, fF, fun k hk => (fW k hk).imp id (fun h => by omega), fun k h1 h2 => ?_, fun k h1 => ⟨fun e => ?_, fun e => ?_, fun e => ?_⟩⟩
    · refine ((o2.below b3 (Nat.le_refl _)).keep k4 (fun k h1 h2 => ?_)).keep k45 fFX
      rcases fF k h1 with h | h
      · exact hFW k h h2
      · have := hwlt k h2; omega
    · refine o4.keep k45 (fun k hk e => ?_)
      rcases fW k hk with h | h
      · exact hWX (e ▸ h)
      · omega
    · have o3' := o3
      refine (((o3.keep k4 (fun k h1 h2 => ?_)).keep k45 (fun k h1 e => ?_))).mono sz2
      · have := hge k h1; have := hwlt k h2; omega
      · have := hge k h1; omega
    · refine (((K2.mono (fun _ _ h => h.imp id .inl)).trans (Keep.ofBelow (S := fun _ => False) b3) (fun _ _ h => h.elim)).trans k4 (fun _ _ h => .inr (.inr h))).trans k45 (fun _ _ h => .inl h)
    · rcases fW k h2 with h | h
      · rcases fF k h1 with h' | h'
        · exact hFW k h' h
        · have := hwlt k h; omega
      · have := hlf k h1; omega
    · have := hge k h1; omega
    · have := hge k h1; have := hlf k e; omega
    · have h2 := hge k h1
      rcases fW k e with h | h
      · have := hwlt k h; omega
      · have := o3.lt k h1; omega
  have RES := hid res
  obtain ⟨a1, n1, cap1, hvf⟩ := own_sl hf
  obtain ⟨a1', n1', cap1', hvf'⟩ := own_sl o1
  obtain ⟨a2, n2, cap2, hvw⟩ := own_sl hw
  obtain ⟨a2', n2', cap2', hvw'⟩ := own_sl o4
  subst hvf hvf' hvw hvw'
  clear hX hX1 hX2 hX3 hX4 hX5 o1 o2 o3 o4 k1 k12 k4 k45 K2 hu hu2 hw hw2 hf g1 g4 s1 s4 fF fFX fW hwlt hlf hge b3 res hFX hWX hFW hU
  go_enter Tryz.func25, Tryz.ntmps25
  go_wp2_with (at_builtin; go_must (refine Lib.wpList_append_run _ rfl _ _ 41 41 rfl _ _ rfl rfl _ _ hc1 ?_))
  subst hwd
  have c3a : (w3.alloc (.cells #[.slice a3 n3 cap3] 23)).cell? ⟨X, 1, none⟩ = some (.slice a2 n2 cap2) := c3x
  go_region_law (first
    | (refine step_append_run rfl _ _ 23 rfl (.slice none 0 0) (.slice a n cap) _ w3 rfl rfl hc2 ?_)
    | (refine step_append_run rfl _ _ 41 rfl _ _ _ w4 rfl rfl hc3 ?_))
  all_goals
    go_wp2
    go_end0
    exact ⟨rfl, _, _, _, RES.out⟩
end Go.Proofs.YtbodgecbakcaaaaGreatDoor
