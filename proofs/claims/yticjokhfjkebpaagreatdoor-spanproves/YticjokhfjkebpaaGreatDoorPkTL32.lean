import Derived.Test.YticjokhfjkebpaaGreatDoorPkTL17
import Derived.Test.YticjokhfjkebpaaGreatDoorPkR5
import Derived.Test.YticjokhfjkebpaaGreatDoorPkTL4
import Derived.Test.YticjokhfjkebpaaGreatDoorPkO15
import Derived.Test.YticjokhfjkebpaaGreatDoorPkO25
namespace Go.Proofs.YticjokhfjkebpaaGreatDoor
open Go.RowKit
set_option maxRecDepth 100000 in
set_option maxHeartbeats 1000000 in
/-- the document's node of two hashes -/
theorem rnode7_any {l r m : List UInt8} (hl : l.length = 32) (hr : r.length = 32) (h : Hid (Tree.nd l r = m)) (w : World) :
    Calls Tryz.prog 150 #[sv l, sv r] w fun e w' => e = .returned (sv m) ∧ Below w.heap.size w w' := by
  have hm := h.out
  unfold Tree.nd at hm
  rw [if_pos ⟨hl, hr⟩] at hm
  obtain ⟨L, hL⟩ : ∃ L : ByteArray, ByteArray.mk l.toArray = L := ⟨_, rfl⟩
  obtain ⟨R, hR⟩ : ∃ R : ByteArray, ByteArray.mk r.toArray = R := ⟨_, rfl⟩
  have sL : L.size = 32 := by rw [← hL, sv_size, hl]
  have sR : R.size = 32 := by rw [← hR, sv_size, hr]
  have z1 : ({ data := #[1] } ++ L : ByteArray).size = 33 := by rw [app_size, sL]; rfl
  have z2 := joined_size L R sL sR
  have i1 := rsum_at ({ data := #[1] } ++ L ++ R) m (by rw [z2]; omega) (hid (by rw [joined_data, ← hL, ← hR, sv_data, sv_data, ← hm])) w
  rw [show sv l = Value.string L from congrArg Value.string hL, show sv r = Value.string R from congrArg Value.string hR]
  clear hL hR h hm
  go_enter Tryz.func150, Tryz.ntmps150
  go_wp2_with (go_at_call 149; refine i1.mono ?_; rintro e w1 ⟨rfl, hw1⟩)
  go_ret
  exact ⟨rfl, hw1⟩
set_option maxRecDepth 100000 in
set_option maxHeartbeats 400000 in
theorem hash7_nil (a : Option Addr) (cap : Nat) (w : World) :
    Calls Tryz.prog 109 #[.slice a 0 cap] w fun e w' => e = .returned (sv (Tree.root [])) ∧ Below w.heap.size w w' := by
  rw [Tree.root_nil]
  obtain ⟨D, hD⟩ : ∃ D, Sha.sha [] = D := ⟨_, rfl⟩
  rw [hD]
  have i1 := rsum_nil (hid hD)
  clear hD
  go_enter Tryz.func109, Tryz.ntmps109
  go_wp2_with (go_at_call 149; refine (i1 _).mono ?_; rintro e w1 ⟨rfl, hw1⟩)
  go_ret
  exact ⟨rfl, hw1⟩
set_option maxRecDepth 100000 in
set_option maxHeartbeats 400000 in
theorem hash7_one (p : List UInt8) (a : Option Addr) (cap : Nat) (w : World) (hA : At w a [p]) :
    Calls Tryz.prog 109 #[.slice a 1 cap] w fun e w' => e = .returned (sv (Tree.root [p])) ∧ Below w.heap.size w w' := by
  rw [Tree.root_one]
  obtain ⟨x, rfl, hx, hc⟩ := hA 0 p rfl
  rw [addr_zero] at hc
  go_enter Tryz.func109, Tryz.ntmps109
  go_wp2
  go_ret
  exact ⟨rfl, Below.refl _ _⟩
set_option maxRecDepth 100000 in
set_option maxHeartbeats 4000000 in
/-- the document's hash of some leaves -/
theorem hash7_any : ∀ (f : Nat) (l : List (List UInt8)) (a : Option Addr) (cap : Nat) (w : World), l.length ≤ f → l.length ≤ cap → cap ≤ 9223372036854775807 → l.length ≤ 4611686018427387903 → Tree.Hs l → At w a l →
    Calls Tryz.prog 109 #[.slice a l.length cap] w fun e w' => e = .returned (sv (Tree.root l)) ∧ Below w.heap.size w w' := by
  intro f
  induction f with
  | zero =>
    intro l a cap w hf hl hc h62 hHs hA
    obtain rfl : l = [] := List.length_eq_zero_iff.1 (by omega)
    exact hash7_nil a cap w
  | succ f ih =>
    intro l a cap w hf hl hc h62 hHs hA
    match l, hf, hl, h62, hHs, hA with
    | [], _, _, _, _, _ => exact hash7_nil a cap w
    | [p], _, _, _, _, hA => exact hash7_one p a cap w hA
    | p :: q :: t, hf, hl, h62, hHs, hA =>
      obtain ⟨n, hn⟩ : ∃ n, (p :: q :: t).length = n := ⟨_, rfl⟩
      have h2 : 2 ≤ n := by rw [← hn]; simp
      obtain ⟨x, rfl⟩ := hA.pos (by rw [hn]; omega)
      have e := hid (Tree.root_cut (l := p :: q :: t) (by rw [hn]; exact h2))
      generalize p :: q :: t = l at *
      rw [hn] at e hf hl h62 ⊢
      have k1 := Tree.sp_lt h2
      have k2 := Tree.sp_pos h2
      have hsp : Hid (∀ a, 2 ^ a < n → n ≤ 2 * 2 ^ a → 2 ^ a = Tree.sp n) := fun a x1 x2 => (Tree.sp_one h2 a x1 x2).symm
      generalize Tree.sp n = k at *
      have l1 : (l.take k).length = k := by rw [List.length_take, hn]; omega
      have l2 : (l.drop k).length = n - k := by rw [List.length_drop, hn]
      have c1 := fun w' (h : At w' (some x) (l.take k)) => ih (l.take k) (some x) cap w' (by omega) (by omega) hc (by omega) (hHs.take k) h
      have c2 := fun w' (h : At w' (some (x.add k)) (l.drop k)) => ih (l.drop k) (some (x.add k)) (cap - k) w' (by omega) (by omega) (by omega) (by omega) (hHs.drop k) h
      rw [l1] at c1
      rw [l2] at c2
      have n1 : ((n : Int) == 0) = false := by simp; omega
      have n2 : ((n : Int) == 1) = false := by simp; omega
      have hne : ¬ cap = k := by omega
      have A1 := hid (hA.take k)
      have A2 := hid (hA.drop k)
      have s1 := Tree.root_hash (hHs.take k)
      have s2 := Tree.root_hash (hHs.drop k)
      generalize hp1 : Tree.root (l.take k) = r1 at *
      generalize hp2 : Tree.root (l.drop k) = r2 at *
      obtain ⟨m, hm⟩ : ∃ m, Hid (Tree.nd r1 r2 = m) := ⟨_, rfl⟩
      have e' := hid (show Tree.root l = m by rw [e.out, hm.out])
      have iN := fun w' => rnode7_any s1 s2 hm w'
      clear hA ih hn e hp1 hp2 s1 s2 l1 l2 hHs hf
      go_enter Tryz.func109, Tryz.ntmps109
      go_wp2
      go_loopw [3] (fun v w' => ∃ a j : Nat, v = .int .i64 (j : Int) ∧ j < n ∧ 1 ≤ j ∧ Hid (2 ^ a = j) ∧ w' = w) (fun v _ => n - (intOf v).toNat)
      case atStart => exact ⟨0, 1, rfl, by omega, by omega, hid rfl, rfl⟩
      case round =>
        obtain ⟨a, j, rfl, hj, hj1, ha, rfl⟩ := hrel
        have s1 : IntKind.i64.wrap (2 * (j : Int)) = 2 * (j : Int) := wrap_small _ (by omega) (by omega)
        by_cases hlt : 2 * j < n
        · have c0 : 2 * (j : Int) < (n : Int) := by omega
          clear c1 c2
          go_wp2
          exact ⟨⟨a + 1, 2 * j, by go_num, hlt, by omega, by unfold Hid; rw [Nat.pow_succ, ha.out]; omega, by first | exact rfl | trivial⟩, by simp [intOf]; omega⟩
        · have c0 : ¬ 2 * (j : Int) < (n : Int) := by omega
          have hjk : j = k := by have := hsp.out a (by rw [ha.out]; exact hj) (by rw [ha.out]; omega); rw [ha.out] at this; exact this
          subst hjk
          have m0 : (0 : Int) ≤ (j : Int) := by omega
          have m1 : (j : Int) ≤ (cap : Int) := by omega
          have m2 : (j : Int) ≤ (n : Int) := by omega
          have m3 : (n : Int) ≤ (cap : Int) := by omega
          have hd : Hid (Below wr.heap.size wr wr.drew) := hid (Below.refl _ wr).drew
          clear hsp ha hA
          go_wp2
          go_region_held3 (fun _ => True) (trivial) (first
            | (go_at_call 109; (with_reducible refine (c1 _ (A1.out.below hd.out (Nat.le_refl _))).mono ?_); rintro e w9 ⟨rfl, hw9⟩; have h9 := hid (hd.out.trans (hw9.mono hd.out.size)))
            | (go_at_call 109; (with_reducible refine (c2 _ (A2.out.below h9.out (Nat.le_refl _))).mono ?_); rintro e w10 ⟨rfl, hw10⟩; have h10 := hid (h9.out.trans (hw10.mono h9.out.size)))
            | (go_at_call 150; (with_reducible refine (iN _).mono ?_); rintro e w11 ⟨rfl, hw11⟩; have h11 := hid (h10.out.trans (hw11.mono h10.out.size))))
          all_goals go_wp2
          all_goals go_ret
          all_goals exact ⟨by rw [e'.out]; rfl, h11.out⟩
end Go.Proofs.YticjokhfjkebpaaGreatDoor

namespace Go.Proofs.YticjokhfjkebpaaGreatDoor
open Go.RowKit
theorem sg_more {L : List (List UInt8)} {b k m : Nat} (hb : b + k < L.length) (hk : k < m) : (Til.sg L b (b + k) ++ List.replicate (m - k) []).set k L[b + k] = Til.sg L b (b + (k + 1)) ++ List.replicate (m - (k + 1)) [] := by
  have hl := Til.sg_len (L := L) (b := b) (e := b + k) (by omega)
  have e1 : Til.sg L b (b + (k + 1)) = Til.sg L b (b + k) ++ [L[b + k]] := by
    unfold Til.sg
    rw [show b + (k + 1) = (b + k) + 1 by omega, List.take_add_one, List.getElem?_eq_getElem hb, Option.toList_some, List.drop_append_of_le_length (by rw [List.length_take]; omega)]
  rw [List.set_append, if_neg (by omega), hl, show b + k - b = k by omega, Nat.sub_self, e1, List.append_assoc]
  congr 1
  rw [show m - k = (m - (k + 1)) + 1 by omega, List.replicate_succ, List.set_cons_zero]
  rfl
end Go.Proofs.YticjokhfjkebpaaGreatDoor

namespace Go.Proofs.YticjokhfjkebpaaGreatDoor
open Go.RowKit
theorem sizeSpn : (Tryz.prog.info? 35).map (·.size) = some 2 := by kernel_rfl
end Go.Proofs.YticjokhfjkebpaaGreatDoor

namespace Go.Proofs.YticjokhfjkebpaaGreatDoor
open Go.RowKit
theorem Tb.next {w w' : World} (h : Tb w) (hb : Below w.heap.size w w') : Tb w' := h.below hb h.lt
theorem Tabs.next' {w w' : World} (h : Tabs w) (hb : Below w.heap.size w w') : Tabs w' := h.below hb h.lt
end Go.Proofs.YticjokhfjkebpaaGreatDoor

namespace Go.Proofs.YticjokhfjkebpaaGreatDoor
open Go.RowKit
theorem append_S (w : World) (B : Nat) (v : Value) (H : List (List UInt8)) (x : List UInt8) (hown : Own w B v (svs H)) (hlen : H.length ≤ 2000000) (hB : B ≤ w.heap.size) :
    ∃ v' w', (Builtin.append_ #[24, 24] 24 #[v, .slice (some ⟨w.heap.size, 0, none⟩) 1 1]).run Tryz.prog (w.alloc (.cells #[.string ⟨x.toArray⟩] 9)) = .ok v' w' ∧ Own w' B v' (svs (H ++ [x])) ∧ Grow w w' v v' := by
  have h := append_one 24 9 (.string ⟨#[]⟩) 16 (by omega) undSlS infoS rfl w B v (svs H) (sv x) rfl hown (by rw [svs_length]; exact hlen) hB
  rw [show svs H ++ [sv x] = svs (H ++ [x]) by simp [svs]] at h
  exact h
/-- the roots of the past -/
def rts (L : List (List UInt8)) (k : Nat) : List (List UInt8) := (List.range k).map fun j => Tree.root (L.take j)
theorem rts_succ (L : List (List UInt8)) (k : Nat) : rts L (k + 1) = rts L k ++ [Tree.root (L.take k)] := by unfold rts; rw [List.range_succ, List.map_append]; rfl
theorem rts_len (L : List (List UInt8)) (k : Nat) : (rts L k).length = k := by unfold rts; rw [List.length_map, List.length_range]
theorem rts_get {L : List (List UInt8)} {k j : Nat} (h : j < k) : (rts L k)[j]? = some (Tree.root (L.take j)) := by
  unfold rts
  rw [List.getElem?_map, List.getElem?_range h]
  rfl
/-- a span in a variable of its own -/
def Sn (w w' : World) (g b e : Nat) : Prop := w'.heap[g]? = some (.cells #[.int .i64 (b : Int), .int .i64 (e : Int)] 35 (0, 0)) ∧ Below w.heap.size w w'
/-- two cells -/
def S22 (p q : Addr) (x y : Value) (w : World) : Prop := w.cell? p = some x ∧ w.cell? q = some y
theorem S22.below {p q : Addr} {x y : Value} {w w' : World} {B : Nat} (h : S22 p q x y w) (hb : Below B w w') (h1 : p.block < B) (h2 : q.block < B) : S22 p q x y w' := ⟨(hb.cell h1).trans h.1, (hb.cell h2).trans h.2⟩
end Go.Proofs.YticjokhfjkebpaaGreatDoor
