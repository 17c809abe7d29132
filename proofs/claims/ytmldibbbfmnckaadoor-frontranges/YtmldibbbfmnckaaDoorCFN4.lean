import Derived.Test.YtmldibbbfmnckaaDoorCFN3
import Derived.Test.YtmldibbbfmnckaaDoorCFR5
import Derived.Test.YtmldibbbfmnckaaDoorCO48
namespace Go.Proofs.YtmldibbbfmnckaaDoor
open Go.RowKit
set_option maxRecDepth 100000 in
theorem fisHash_is (s : ByteArray) (q : Bool) (h : ((s.size : Int) == 32) = q) (w : World) : Calls Tryd.prog 42 #[.string s] w fun r w' => r = .returned (.bool q) ∧ w' = w := by
  go_enter Tryd.func42, Tryd.ntmps42
  go_wp2
  go_ret
  exact ⟨rfl, rfl⟩
/-- are all of 32 bytes? -/
def hsB (l : List (List UInt8)) : Bool := l.all (·.length == 32)
set_option maxRecDepth 100000 in
set_option maxHeartbeats 2000000 in
theorem areHashes_is (l : List (List UInt8)) (q : Bool) (hq : hsB l = q) (a : Option Addr) (cap : Nat) (w : World) (hc : l.length ≤ 9223372036854775807) (hA : At w a l) :
    Calls Tryd.prog 36 #[.slice a l.length cap] w fun r w' => r = .returned (.bool q) ∧ w' = w := by
  have HQ := hid hq
  generalize hn : l.length = k at *
  have HA := hid hA
  clear hA hq
  go_enter Tryd.func36, Tryd.ntmps36
  go_wp2
  go_loopw [7] (fun i w' => ∃ j : Nat, j ≤ k ∧ i = .int .i64 (j : Int) ∧ Hid ((l.take j).all (·.length == 32) = true) ∧ w' = w) (fun i _ => k - (intOf i).toNat)
  case atStart => exact ⟨0, by omega, rfl, rfl, rfl⟩
  case round =>
    obtain ⟨j, hj, rfl, hall, rfl⟩ := hrel
    by_cases hjk : j < k
    · have b0 : (j : Int) < (k : Int) := by omega
      obtain ⟨y, rfl⟩ := HA.out.pos (by omega)
      obtain ⟨s, hs, hcell⟩ := HA.out.cell j (by omega)
      by_cases h32 : s.size = 32
      · have i2 := fisHash_is s true (by simp; omega) wr
        have e2 := hid (all_take l j (by omega) hall.out (by rw [← hs.out, data_length]; exact h32))
        clear HA hall hs
        go_wp2_with (go_at_call 42; refine i2.mono ?_; rintro e w2 ⟨rfl, rfl⟩)
        exact ⟨⟨j + 1, by omega, by go_num, e2, trivial⟩, by simp [intOf]; omega⟩
      · have i2 := fisHash_is s false (by simp; omega) wr
        have e2 := all_not l j (by omega) (by rw [← hs.out, data_length]; exact h32)
        have e3 := hid (show q = false by rw [← HQ.out]; exact e2)
        clear HA hall hs e2
        go_wp2_with (go_at_call 42; refine i2.mono ?_; rintro e w2 ⟨rfl, rfl⟩)
        go_ret
        exact ⟨by rw [e3.out]; rfl, rfl⟩
    · obtain rfl : j = k := by omega
      have b0 : ¬ (j : Int) < (j : Int) := by omega
      rw [← hn, List.take_length] at hall
      have e3 := hid (show q = true by rw [← HQ.out]; exact hall.out)
      clear HA hall
      go_wp2
      go_ret
      exact ⟨by rw [e3.out]; rfl, rfl⟩
set_option maxRecDepth 100000 in
set_option maxHeartbeats 2000000 in
theorem fnode_any {l r m : List UInt8} (h : Hid (Tree.nd l r = m)) (w : World) (T : Tabs w) :
    Calls Tryd.prog 64 #[sv l, sv r] w fun e w' => e = .returned (sv m) ∧ Below w.heap.size w w' := by
  obtain ⟨m', d, hm⟩ : ∃ m' d, Hid (nodeOf l r = (m', d)) := ⟨_, _, rfl⟩
  have e' := hid (show m = m' by rw [← h.out, ← nodeOf_nd, hm.out])
  go_enter Tryd.func64, Tryd.ntmps64
  go_wp2_with (go_at_call 34; refine (node_at hm _ T).mono ?_; rintro e w1 ⟨rfl, hw1⟩)
  go_ret
  exact ⟨by rw [e'.out]; rfl, hw1⟩
/-- make(nodeList, c) -/
theorem make_nodes (w : World) (c : Nat) (hc : c ≤ 8796093021960) :
    (Instr.makeSlice 73 (.int .i64 (c : Int)) (.int .i64 (c : Int))).run Tryd.prog w = .ok (.slice (some ⟨w.heap.size, 0, none⟩) c c) (w.alloc (.cells (svs (List.replicate c [])).toArray 9)) := by
  obtain ⟨i0, hi, hz0, hz1, hz2⟩ := info_parts infoS
  have h := run_make (P := Tryd.prog) w 73 9 i0 (.string ⟨#[]⟩) Tryd.underlying73 hi hz0 .i64 .i64 (c : Int) (c : Int) (by omega) (by omega) (by rw [hz2]; omega) (by omega)
  rw [Int.toNat_natCast, hz1, Nat.mul_one] at h
  have e : madeCells (Value.string ⟨#[]⟩).cells c = (svs (List.replicate c [])).toArray := by
    apply Array.ext'
    rw [show (madeCells (Value.string ⟨#[]⟩).cells c).toList = List.replicate c (.string ⟨#[]⟩) from toList_madeCells_one _ _]
    simp [svs]; exact .inr rfl
  rw [e] at h
  exact h
theorem copy_nodes (w : World) (H : Nat) (a : Option Addr) (cap' : Nat) (ps : List (List UInt8)) (hs : At w a ps) (hR : Row w H (List.replicate ps.length [])) (cap : Nat) :
    ∃ w', (Builtin.copy_ #[73, 73] 3 #[.slice (some ⟨H, 0, none⟩) ps.length cap, .slice a ps.length cap']).run Tryd.prog w = .ok (goInt ps.length) w' ∧ Row w' H ps ∧ But H w w' := by
  by_cases h0 : ps.length = 0
  · obtain rfl : ps = [] := List.length_eq_zero_iff.1 h0
    exact ⟨w, run_copy_none (P := Tryd.prog) w _ _ _ 9 _ _ _ _ _ _ Tryd.underlying73 infoS1 (by simp), by simpa using hR, But.refl _ _⟩
  · obtain ⟨x, rfl, hx, _⟩ := hs 0 _ (List.getElem?_eq_getElem (by omega))
    have h := run_copy_row (P := Tryd.prog) w 73 73 3 9 H 0 ps.length cap x ps.length cap' _ 9 (svs ps) Tryd.underlying73 infoS1 hR
      (by rw [svs_length]; exact (Nat.min_eq_left (by omega)).symm) (fun j u hu => by
        simp only [svs, List.getElem?_map, Option.map_eq_some_iff] at hu
        obtain ⟨p, hp, rfl⟩ := hu
        obtain ⟨y, hy, _, hc⟩ := hs j p hp
        cases hy
        exact hc) (by simp [svs]) (fun u hu => svs_one' hu)
    refine ⟨_, h.trans (by rw [svs_length]), ?_, (But.refl _ _).setRow _⟩
    unfold Row
    rw [setRow_heap _ _ _ _ _ _ hR]
    refine congrArg (fun A => some (Obj.cells A 9 (0, 0))) ?_
    simp [svs]
set_option maxRecDepth 100000 in
set_option maxHeartbeats 2000000 in
theorem fcopied_any (l : List (List UInt8)) (a : Option Addr) (cap : Nat) (w : World) (hn : l.length ≤ 8796093021952) (hA : At w a l) :
    Calls Tryd.prog 39 #[.slice a l.length cap] w fun e w' => e = .returned (.slice (some ⟨w.heap.size, 0, none⟩) l.length l.length) ∧ Row w' w.heap.size l ∧ Below w.heap.size w w' := by
  have hmk := make_nodes w l.length (by omega)
  have R1 : Row (w.alloc (.cells (svs (List.replicate l.length [])).toArray 9)) w.heap.size (List.replicate l.length []) := heap_alloc_new w _
  have hb1 := (Below.refl w.heap.size w).alloc (Nat.le_refl _) (.cells (svs (List.replicate l.length [])).toArray 9)
  obtain ⟨w2, hcp, hR2, hb2⟩ := copy_nodes _ w.heap.size a cap l (hA.below hb1 (Nat.le_refl _)) R1 l.length
  have HB2 := hid (show Below w.heap.size w w2 from hb1.trans (hb2.below (Nat.le_refl _) (by rw [size_alloc]; omega)))
  have HR2 := hid hR2
  clear hR2 R1 hb2 hb1 hA
  generalize w.alloc (.cells (svs (List.replicate l.length [])).toArray 9) = w1 at *
  generalize l.length = n at *
  go_enter Tryd.func39, Tryd.ntmps39
  go_wp2
  go_ret
  exact ⟨rfl, HR2.out, HB2.out⟩
theorem fold_drop {H : List (List UInt8)} {j j' : Nat} (hj : j' = j + 1) (h : j + 1 < H.length) : Cut.fold (H.drop j) = Tree.nd (H[j]'(by omega)) (Cut.fold (H.drop j')) := by
  subst hj
  rw [List.drop_eq_getElem_cons (by omega), List.drop_eq_getElem_cons h]
  rfl
theorem fold_last {H : List (List UInt8)} {j : Nat} (h : j + 1 = H.length) : Cut.fold (H.drop j) = (H[j]'(by omega)) := by
  rw [List.drop_eq_getElem_cons (by omega), List.drop_eq_nil_of_le (by omega)]
  rfl
set_option maxRecDepth 100000 in
set_option maxHeartbeats 4000000 in
theorem froot_any (H : List (List UInt8)) (a : Option Addr) (cap : Nat) (w : World) (hn : H.length ≤ 8796093021952) (hA : At w a H) (T : Tabs w) :
    Calls Tryd.prog 45 #[.slice a H.length cap] w fun e w' => e = .returned (sv (Cut.fold H)) ∧ Below w.heap.size w w' := by
  obtain ⟨F, hF⟩ : ∃ F, Hid (Cut.fold H = F) := ⟨_, rfl⟩
  rw [hF.out]
  have HT := hid T
  have hT := T.lt
  by_cases h0 : H.length = 0
  · obtain rfl : H = [] := List.length_eq_zero_iff.1 h0
    have he := empty_any w T
    have e0 := hid (show Sha.sha [] = F from hF.out)
    rw [e0.out] at he
    show Calls _ _ #[.slice a 0 cap] _ _
    go_enter Tryd.func45, Tryd.ntmps45
    go_wp2_with (go_at_call 69; refine he.mono ?_; rintro e w1 ⟨rfl, hw1⟩)
    go_ret
    exact ⟨rfl, hw1⟩
  · obtain ⟨m, hm⟩ : ∃ m, H.length = m + 1 := ⟨H.length - 1, by omega⟩
    obtain ⟨y, rfl⟩ := hA.pos (by omega)
    obtain ⟨s, hs, hcell⟩ := hA.cell m (by omega)
    have hfl := hid (fold_last (H := H) (j := m) hm.symm)
    have HA := hid hA
    have Hm := hid hm
    have b1 : (((m + 1 : Nat) : Int) == 0) = false := by simp; omega
    have b2 : ((m + 1 : Nat) : Int) - 1 = (m : Int) := by omega
    have b3 : (m : Int) < ((m + 1 : Nat) : Int) := by omega
    have es := hid (show (.string s : Value) = sv (Cut.fold (H.drop m)) by rw [hfl.out, ← hs.out]; cases s; rfl)
    rw [hm] at hn ⊢
    clear hA T hs hm h0 hfl
    generalize hk : m + 1 = k at *
    go_enter Tryd.func45, Tryd.ntmps45
    go_wp2
    go_loopw [18, 4] (fun i r w' => ∃ j : Nat, j ≤ m ∧ i = .int .i64 (j : Int) ∧ r = sv (Cut.fold (H.drop (m - j))) ∧ Hid (Below w.heap.size w w')) (fun i _ _ => m - (intOf i).toNat)
    case atStart => exact ⟨0, by omega, rfl, es.out, Below.refl _ _⟩
    case round =>
      clear es
      obtain ⟨j, hj, rfl, rfl, hB⟩ := hrel
      by_cases hjm : j < m
      · have b0 : (j : Int) < (m : Int) := by omega
        have A1 := HA.out.below hB.out (Nat.le_refl _)
        obtain ⟨s, hs, hcell⟩ := A1.cell (m - 1 - j) (by have := Hm.out; omega)
        obtain ⟨N, hN⟩ : ∃ N, Hid (Cut.fold (H.drop (m - (j + 1))) = N) := ⟨_, rfl⟩
        have hnd : Hid (Tree.nd s.data.toList (Cut.fold (H.drop (m - j))) = N) := by
          unfold Hid
          have hd := fold_drop (H := H) (j := m - 1 - j) (j' := m - j) (by omega) (by have := Hm.out; omega)
          rw [hs.out, ← hN.out, show m - (j + 1) = m - 1 - j from by omega, hd]
        have i1 := fun w' T => fnode_any (l := s.data.toList) hnd w' T
        rw [show sv s.data.toList = .string s from by cases s; rfl] at i1
        have T1 := HT.out.below hB.out hT
        obtain ⟨u, hu⟩ : ∃ u : Nat, m - 1 - j = u := ⟨_, rfl⟩
        have u1 : (m : Int) - 1 - (j : Int) = (u : Int) := by omega
        have u2 : (u : Int) < (k : Int) := by omega
        rw [hu] at hcell
        generalize Cut.fold (H.drop (m - j)) = R at *
        clear hs hnd A1 HA
        go_wp2_with (go_at_call 64; refine (i1 _ T1).mono ?_; rintro e w2 ⟨rfl, hw2⟩)
        exact ⟨⟨j + 1, by omega, by go_num, by rw [hN.out], hid (hB.out.trans (hw2.mono hB.out.size))⟩, by simp [intOf]; omega⟩
      · obtain rfl : j = m := by omega
        have b0 : ¬ (j : Int) < (j : Int) := by omega
        clear HA
        go_wp2
        go_ret
        exact ⟨by rw [← hF.out]; rfl, hB.out⟩
end Go.Proofs.YtmldibbbfmnckaaDoor

namespace Go.Proofs.YtmldibbbfmnckaaDoor
namespace Cut
open Tree
theorem push_len : ∀ (l : List (Nat × Nat)) (b n : Nat), (push l b n).length ≤ l.length + 1
  | [], _, _ => Nat.le_refl _
  | (p, m) :: l, b, n => by
    rw [push]
    split
    · have := push_len l p (2 * n)
      simp only [List.length_cons]; omega
    · simp
theorem pushAll_len : ∀ (l st : List (Nat × Nat)), (pushAll st l).length ≤ st.length + l.length
  | [], st => Nat.le_refl _
  | (b, n) :: l, st => by
    rw [pushAll]
    have := pushAll_len l (push st b n)
    have := push_len st b n
    simp only [List.length_cons]; omega
theorem cut_len_add {a b c : Nat} (h0 : c ≤ 1099511627776) (h1 : a ≤ b) (h2 : b ≤ c) : (cut a c).length ≤ (cut a b).length + (cut b c).length := by
  rw [← join_cut h0 h1 h2, List.length_reverse]
  have := pushAll_len (cut b c) (cut a b).reverse
  rwa [List.length_reverse] at this
theorem cut_len_end {a b k : Nat} (h0 : b + 2 ^ k ≤ 1099511627776) (h1 : a ≤ b) (hb : b % 2 ^ k = 0) (h2 : ¬ (b / 2 ^ k % 2 = 1 ∧ a + 2 ^ k ≤ b)) : (cut a (b + 2 ^ k)).length = (cut a b).length + 1 := by
  have hl : (List.replicate (cut a b).length ([] : T)).length = (cut a b).length := List.length_replicate
  have e1 := takeH_length (x := []) h0 h1 ⟨k, rfl⟩ hb hl
  have e2 := takeH_end (x := []) (by omega) h1 h2 hl
  rw [← e1, e2, List.length_append, hl]
  rfl
/-- from an aligned place on -/
theorem cut_len_right : ∀ (K a b : Nat), b ≤ 1099511627776 → a % 2 ^ K = 0 → a ≤ b → b < a + 2 ^ K → (cut a b).length ≤ K
  | 0, a, b, _, _, h2, h3 => by
    have : (2 : Nat) ^ 0 = 1 := rfl
    obtain rfl : a = b := by omega
    rw [cut_nil]; exact Nat.le_refl _
  | K + 1, a, b, h0, h1, h2, h3 => by
    have hK := two_pos K
    have hd := pow_double K
    have h1' := mod_of_le (Nat.le_succ K) h1
    by_cases h : b < a + 2 ^ K
    · have := cut_len_right K a b h0 h1' h2 h
      omega
    · have hg : grow 40 1 a b = 2 ^ K := grow_one h0 (by omega) h1' (by omega) (fun hh => by omega)
      rw [cut_cons h0 (by omega), hg, List.length_cons]
      have := cut_len_right K (a + 2 ^ K) b h0 (by rw [Nat.add_mod_right]; exact h1') (by omega) (by omega)
      omega
/-- up to an aligned place -/
theorem cut_len_left : ∀ (K a b : Nat), b ≤ 1099511627776 → b % 2 ^ K = 0 → a ≤ b → b < a + 2 ^ K → (cut a b).length ≤ K
  | 0, a, b, _, _, h2, h3 => by
    have : (2 : Nat) ^ 0 = 1 := rfl
    obtain rfl : a = b := by omega
    rw [cut_nil]; exact Nat.le_refl _
  | K + 1, a, b, h0, h1, h2, h3 => by
    have hK := two_pos K
    have hd := pow_double K
    have h1' := mod_of_le (Nat.le_succ K) h1
    by_cases h : b < a + 2 ^ K
    · have := cut_len_left K a b h0 h1' h2 h
      omega
    · obtain ⟨c, rfl⟩ : ∃ c, b = c + 2 ^ K := ⟨b - 2 ^ K, by omega⟩
      have hc : c % 2 ^ K = 0 := by rw [Nat.add_mod_right] at h1'; exact h1'
      rw [cut_len_end h0 (by omega) hc (fun hh => by omega)]
      have := cut_len_left K a c (by omega) hc (by omega) (by omega)
      omega
theorem cut_len_one {a k : Nat} (h0 : a + 2 ^ k ≤ 1099511627776) (h1 : a % 2 ^ k = 0) : (cut a (a + 2 ^ k)).length = 1 := by
  have hK := two_pos k
  rw [cut_len_end h0 (Nat.le_refl _) h1 (fun hh => by omega), cut_nil]
  rfl
theorem cut_len_in : ∀ (K c a b : Nat), b ≤ 1099511627776 → c % 2 ^ K = 0 → c ≤ a → a ≤ b → b ≤ c + 2 ^ K → (cut a b).length ≤ 2 * K + 1
  | 0, c, a, b, h0, _, h2, h3, h4 => by
    have := cov_len (cut_cov h0 h3)
    have : (2 : Nat) ^ 0 = 1 := rfl
    omega
  | K + 1, c, a, b, h0, h1, h2, h3, h4 => by
    have hK := two_pos K
    have hd := pow_double K
    have h1' := mod_of_le (Nat.le_succ K) h1
    have hm : (c + 2 ^ K) % 2 ^ K = 0 := by rw [Nat.add_mod_right]; exact h1'
    by_cases hb : b ≤ c + 2 ^ K
    · have := cut_len_in K c a b h0 h1' h2 h3 hb
      omega
    · by_cases ha : c + 2 ^ K ≤ a
      · have := cut_len_in K (c + 2 ^ K) a b h0 hm ha h3 (by omega)
        omega
      · have hadd := cut_len_add (a := a) (b := c + 2 ^ K) (c := b) h0 (by omega) (by omega)
        have h5 : (cut a (c + 2 ^ K)).length ≤ K + 1 := by
          by_cases e : a = c
          · subst e; rw [cut_len_one (by omega) h1']; omega
          · have := cut_len_left K a (c + 2 ^ K) (by omega) hm (by omega) (by omega); omega
        have h6 : (cut (c + 2 ^ K) b).length ≤ K + 1 := by
          by_cases e : b = c + 2 ^ K + 2 ^ K
          · subst e; rw [cut_len_one h0 hm]; omega
          · have := cut_len_right K (c + 2 ^ K) b h0 hm (by omega) (by omega); omega
        omega
/-- a span has few subtrees -/
theorem cut_len {a b : Nat} (h0 : b ≤ 1099511627776) (h : a ≤ b) : (cut a b).length ≤ 81 :=
  cut_len_in 40 0 a b h0 (Nat.zero_mod _) (Nat.zero_le _) h (Nat.le_trans h0 (by decide))
end Cut
end Go.Proofs.YtmldibbbfmnckaaDoor

namespace Go.Proofs.YtmldibbbfmnckaaDoor
open Go.RowKit

end Go.Proofs.YtmldibbbfmnckaaDoor

namespace Go.Proofs.YtmldibbbfmnckaaDoor
open Go.RowKit

/-- a list of one's own, and a number, come out -/
def Out2 (w : World) (o : List (List UInt8) × Int) (e : Ending) (w' : World) : Prop := ∃ v, e = .returned (.tuple #[v, .int .i64 o.2]) ∧ Own w' w.heap.size v (svs o.1) ∧ Below w.heap.size w w'
/-- T4 -/
def pathOut (l : List (List UInt8)) (m : Int) : List (List UInt8) × Int := if wrg l = 0 then (if 0 ≤ m ∧ m < l.length then (Tree.path m.toNat l, 0) else ([], 30)) else ([], wrg l)
theorem wrg_le {l : List (List UInt8)} (h : wrg l = 0) : l.length ≤ 4096 := by
  unfold wrg at h
  split at h
  · omega
  · omega
end Go.Proofs.YtmldibbbfmnckaaDoor

namespace Go.Proofs.YtmldibbbfmnckaaDoor
open Go.RowKit

def u8 (c : Int) : UInt8 := UInt8.ofNat (c % 256).toNat
theorem u8_toNat (c : Int) : (((u8 c).toNat : Nat) : Int) = c % 256 := by
  unfold u8
  rw [UInt8.toNat_ofNat']
  omega
/-- the law's leaf of a number -/
def lf (c : Int) : List UInt8 := u8 c :: (List.replicate 30 0 ++ [u8 (c / 256)])
theorem lf_length (c : Int) : (lf c).length = 32 := by simp [lf]
theorem make32 (w : World) : (Instr.makeSlice 94 (.int .i64 32) (.int .i64 32)).run Tryd.prog w = .ok (.slice (some ⟨w.heap.size, 0, none⟩) 32 32) (w.alloc (.cells (bv (List.replicate 32 0)).toArray 5)) := by
  obtain ⟨i0, hi, hz0, hz1, hz2⟩ := info_parts info5'
  have h := run_make (P := Tryd.prog) w 94 5 i0 (.int .u8 0) Tryd.underlying94 hi hz0 .i64 .i64 32 32 (by omega) (by omega) (by rw [hz2]; decide) (by omega)
  rw [hz1] at h
  have e : madeCells (Value.int .u8 0).cells (Int.toNat 32 * 1) = (bv (List.replicate 32 0)).toArray := by
    apply Array.ext'
    have h1 : (madeCells (Value.int .u8 0).cells (Int.toNat 32 * 1)).toList = List.replicate (Int.toNat 32 * 1) (.int .u8 0) := toList_madeCells_one _ _
    rw [h1, bv, List.map_replicate]
    rfl
  rw [e] at h
  exact h
theorem lf_one (c : Int) : (bv (List.replicate 32 0)).toArray.setIfInBounds 0 (.int .u8 (c % 256)) = (bv (u8 c :: List.replicate 31 0)).toArray := by
  rw [← u8_toNat c]; rfl
theorem lf_two (c : Int) : (bv (u8 c :: List.replicate 31 0)).toArray.setIfInBounds 31 (.int .u8 (c / 256 % 256)) = (bv (lf c)).toArray := by
  rw [← u8_toNat (c / 256)]; rfl
set_option maxRecDepth 100000 in
set_option maxHeartbeats 400000 in
theorem lleaf_any (c : Int) (w : World) :
    Calls Tryd.prog 33 #[.int .i64 c] w fun e w' => e = .returned (sv (lf c)) ∧ Below w.heap.size w w' := by
  have hmk := make32 w
  have hh := heap_alloc_new w (.cells (bv (List.replicate 32 0)).toArray 5)
  have hb := (Below.refl w.heap.size w).alloc (Nat.le_refl _) (.cells (bv (List.replicate 32 0)).toArray 5)
  generalize w.alloc (.cells (bv (List.replicate 32 0)).toArray 5) = w1 at *
  obtain ⟨y, _, _, c1⟩ := bv_cell hh 0 (by simp)
  have f1 : w1.frozen? ⟨w.heap.size, 0, none⟩ = false := frozen_of_row _ _ _ _ _ hh
  have hh2 := heap_setCell_same w1 w.heap.size 0 _ _ (.int .u8 (c % 256)) hh
  rw [lf_one] at hh2
  have hb2 := hb.setCell (Nat.le_refl _) (p := ⟨w.heap.size, 0, none⟩) (.int .u8 (c % 256))
  obtain ⟨y2, _, _, c2⟩ := bv_cell hh2 31 (by simp)
  have f2 : (w1.setCell ⟨w.heap.size, 0, none⟩ (.int .u8 (c % 256))).frozen? ⟨w.heap.size, 31, none⟩ = false := frozen_of_row _ _ _ _ _ hh2
  have hh3 := heap_setCell_same _ w.heap.size 31 _ _ (.int .u8 (c / 256 % 256)) hh2
  rw [lf_two] at hh3
  have hb3 := hid (hb2.setCell (Nat.le_refl _) (p := ⟨w.heap.size, 31, none⟩) (.int .u8 (c / 256 % 256)))
  have hcv := run_conv_bytes (P := Tryd.prog) _ 94 9 5 w.heap.size 0 32 32 (lf c) (lf_length c) Tryd.underlying94 Tryd.underlying5 Tryd.underlying9 (rangeAt_of_list hh3 (fun j v hv => by rw [Nat.zero_add]; exact hv))
  generalize lf c = L at *
  clear hh hb hh2 hb2 hh3
  go_enter Tryd.func33, Tryd.ntmps33
  go_wp2
  go_ret
  exact ⟨rfl, hb3.out⟩
end Go.Proofs.YtmldibbbfmnckaaDoor

namespace Go.Proofs.YtmldibbbfmnckaaDoor
open Go.RowKit

theorem split2 (w : World) : Calls Tryd.prog 71 #[.int .i64 2] w fun e w' => e = .returned (.int .i64 1) ∧ w' = w := split_any 2 (by decide) (by decide) w
theorem split3 (w : World) : Calls Tryd.prog 71 #[.int .i64 3] w fun e w' => e = .returned (.int .i64 2) ∧ w' = w := split_any 3 (by decide) (by decide) w
theorem split9 (w : World) : Calls Tryd.prog 71 #[.int .i64 9] w fun e w' => e = .returned (.int .i64 8) ∧ w' = w := split_any 9 (by decide) (by decide) w
theorem sp2 : Tree.sp 2 = 1 := by decide
theorem sp3 : Tree.sp 3 = 2 := by decide
theorem root2 (a b : List UInt8) : Tree.root [a, b] = Tree.nd a b := by
  rw [Tree.root_cut (by simp), show [a, b].length = 2 from rfl, sp2]
  rfl
theorem root3 (a b c : List UInt8) : Tree.root [a, b, c] = Tree.nd (Tree.nd a b) c := by
  rw [Tree.root_cut (by simp), show [a, b, c].length = 3 from rfl, sp3]
  show Tree.nd (Tree.root [a, b]) (Tree.root [c]) = _
  rw [root2, Tree.root_one]
theorem path3 (a b c : List UInt8) : Tree.path 2 [a, b, c] = [Tree.nd a b] := by
  rw [Tree.path_cut (by simp), show [a, b, c].length = 3 from rfl, sp3, if_neg (by omega)]
  show Tree.path 0 [c] ++ [Tree.root [a, b]] = _
  rw [root2, Tree.path_small (by simp)]
  rfl
theorem wrg3 (a b c : List UInt8) (ha : a.length = 32) (hb : b.length = 32) (hc : c.length = 32) : wrg [a, b, c] = 0 := by
  simp [wrg, ha, hb, hc]
theorem at3 (w : World) (a b c : List UInt8) : At (w.alloc (.cells #[sv a, sv b, sv c] 9)) (some ⟨w.heap.size, 0, none⟩) [a, b, c] := fun j p hp => by
  refine ⟨_, rfl, by rw [size_alloc]; exact Nat.lt_succ_self _, ?_⟩
  rw [Addr.add_mid, cell_of_row _ _ _ _ _ _ (heap_alloc_new w _), Nat.zero_add]
  match j, hp with
  | 0, h => obtain rfl := Option.some.inj h; rfl
  | 1, h => obtain rfl := Option.some.inj h; rfl
  | 2, h => obtain rfl := Option.some.inj h; rfl
theorem Root3 (a b c R : List UInt8) (ha : a.length = 32) (hb : b.length = 32) (hc : c.length = 32) (hR : Hid (Tree.nd (Tree.nd a b) c = R)) (x : Addr) (w : World) (hA : At w (some x) [a, b, c]) (T : Tabs w) :
    Calls Tryd.prog 14 #[.slice (some x) 3 3] w fun e w' => e = .returned (.tuple #[sv R, .int .i64 0]) ∧ Below w.heap.size w w' := by
  have h := Root_any [a, b, c] (some x) 3 w (by simp) (by omega) hA T
  rw [rootOut, if_pos (wrg3 a b c ha hb hc), root3, hR.out] at h
  exact h
theorem lleaf_at (c : Int) (L : List UInt8) (h : Hid (lf c = L)) (w : World) : Calls Tryd.prog 33 #[.int .i64 c] w fun e w' => e = .returned (sv L) ∧ Below w.heap.size w w' := by
  have := lleaf_any c w
  rwa [h.out] at this
theorem svS (l : List UInt8) : sv l = .string ⟨l.toArray⟩ := rfl
end Go.Proofs.YtmldibbbfmnckaaDoor


namespace Go.Proofs.YtmldibbbfmnckaaDoor
open Go.RowKit

theorem own_one (w : World) (base : Nat) (r : List UInt8) (hb : base ≤ w.heap.size) : Own (w.alloc (.cells #[sv r] 9)) base (.slice (some ⟨w.heap.size, 0, none⟩) 1 1) (svs [r]) := by
  refine .inr ⟨w.heap.size, 1, rfl, hb, by simp [svs], by simp [maxLen], ?_, ?_, by rw [size_alloc]; omega⟩
  · intro j v hv
    rw [cell_of_row _ _ _ _ _ _ (heap_alloc_new w _), Nat.zero_add]
    simpa [svs] using hv
  · exact there_of_row (heap_alloc_new w _) 0 1 (by simp)
end Go.Proofs.YtmldibbbfmnckaaDoor

namespace Go.Proofs.YtmldibbbfmnckaaDoor
open Go.RowKit

/-- T4 -/
def proofOut (l : List (List UInt8)) (m : Int) : List (List UInt8) × Int := if wrg l = 0 then (if 1 ≤ m ∧ m ≤ l.length then (Tree.proof m.toNat l true, 0) else ([], 31)) else ([], wrg l)
end Go.Proofs.YtmldibbbfmnckaaDoor

namespace Go.Proofs.YtmldibbbfmnckaaDoor
open Go.RowKit

/-- T3 -/
def partOut (l : List (List UInt8)) (b e : Int) : List UInt8 × Int := if wrg l = 0 then (if 0 ≤ b ∧ b ≤ e ∧ e ≤ l.length then (Tree.root ((l.take e.toNat).drop b.toNat), 0) else ([], 30)) else ([], wrg l)
end Go.Proofs.YtmldibbbfmnckaaDoor
