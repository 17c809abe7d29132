import Derived.Test.YtkiibcfjjplkaaaDoorCR5
import Derived.Laws.EntriesVeiled
import Derived.Test.YtkiibcfjjplkaaaDoorCK3
import Derived.Test.YtkiibcfjjplkaaaDoorCFR2
namespace Go.Proofs.YtkiibcfjjplkaaaDoor
open Go.RowKit

set_option maxRecDepth 100000 in
set_option maxHeartbeats 400000 in
/-- the program's root -/
theorem root_any (l : List (List UInt8)) (a : Option Addr) (cap : Nat) (w : World) (hl : l.length ≤ cap) (hc : cap ≤ 9223372036854775807) (hA : At w a l) (T : Tabs w) :
    Calls Tryd.prog 65 #[.slice a l.length cap] w fun e w' => e = .returned (sv (Tree.root l)) ∧ Below w.heap.size w w' := by
  have hmf : ∀ (fn : Fn) (first cap : Array Value) (w : World), (Instr.makeFunc fn first cap).run Tryd.prog w = .ok (.func fn first cap) w := fun _ _ _ _ => rfl
  generalize hn : l.length = n at *
  go_enter Tryd.func65, Tryd.ntmps65
  have hb := (Below.refl w.heap.size w).alloc (Nat.le_refl _) (.cells #[Value.func (.func 86) #[] #[Value.pointer (some ⟨w.heap.size, 0, none⟩)]] 98)
  have hc1 := root1_any n l a cap w.heap.size (w.alloc (.cells #[Value.func (.func 86) #[] #[Value.pointer (some ⟨w.heap.size, 0, none⟩)]] 98)) (by omega) (by omega) hc (hA.below hb (Nat.le_refl _)) (T.below hb T.lt)
    (by rw [cell_of_row _ _ _ _ _ _ (heap_alloc_new w _)]; rfl)
  rw [hn] at hc1
  clear hn hA T hc hl
  go_wp2_with (go_at_call 86; refine hc1.mono ?_; rintro e w1 ⟨rfl, hw1⟩)
  go_ret
  exact ⟨rfl, hb.trans (hw1.mono (by rw [size_alloc]; omega))⟩

/-- T2 -/
def wrg (l : List (List UInt8)) : Int := if 4096 < l.length then 31 else if l.all (·.length == 32) then 0 else 32
theorem all_take (l : List (List UInt8)) (k : Nat) (hk : k < l.length) (h : (l.take k).all (·.length == 32) = true) (h2 : (l[k]).length = 32) : (l.take (k + 1)).all (·.length == 32) = true := by
  rw [List.take_succ_eq_append_getElem hk, List.all_append, h]
  simp [h2]
theorem all_not (l : List (List UInt8)) (k : Nat) (hk : k < l.length) (h2 : ¬ (l[k]).length = 32) : l.all (·.length == 32) = false := by
  rw [List.all_eq_false]
  exact ⟨l[k], List.getElem_mem hk, by simpa using h2⟩
set_option maxRecDepth 100000 in
set_option maxHeartbeats 400000 in
theorem check_any (l : List (List UInt8)) (a : Option Addr) (cap : Nat) (w : World) (hc : l.length ≤ 9223372036854775807) (hA : At w a l) :
    Calls Tryd.prog 43 #[.slice a l.length cap] w fun e w' => e = .returned (.int .i64 (wrg l)) ∧ w' = w := by
  generalize hn : l.length = n at *
  by_cases h1 : 4096 < n
  · have h' : (4096 : Int) < (n : Int) := by omega
    go_enter Tryd.func43, Tryd.ntmps43
    go_wp2
    go_ret
    exact ⟨by rw [wrg, if_pos (by omega)]; rfl, rfl⟩
  · have h' : ¬ (4096 : Int) < (n : Int) := by omega
    have HA := hid hA
    have e1 := hid (show wrg l = if l.all (·.length == 32) then 0 else 32 by rw [wrg, if_neg (by omega)])
    clear hA
    go_enter Tryd.func43, Tryd.ntmps43
    go_wp2
    go_loopw [10] (fun i w' => ∃ k : Nat, k ≤ n ∧ i = .int .i64 (k : Int) ∧ Hid ((l.take k).all (·.length == 32) = true) ∧ w' = w) (fun i _ => n - (intOf i).toNat)
    case atStart => exact ⟨0, by omega, rfl, rfl, rfl⟩
    case round =>
      obtain ⟨k, hk, rfl, hall, rfl⟩ := hrel
      by_cases hkn : k < n
      · have b0 : (k : Int) < (n : Int) := by omega
        obtain ⟨x, rfl⟩ := HA.out.pos (by omega)
        obtain ⟨s, hs, hcell⟩ := HA.out.cell k (by omega)
        by_cases h32 : s.size = 32
        · have b1 : ((s.size : Int) != 32) = false := by simp; omega
          have e2 := hid (all_take l k (by omega) hall.out (by rw [← hs.out, data_length]; exact h32))
          clear HA
          go_wp2
          exact ⟨⟨k + 1, by omega, by go_num, e2, trivial⟩, by simp [intOf]; omega⟩
        · have b1 : ((s.size : Int) != 32) = true := by simp; omega
          have e2 := hid (all_not l k (by omega) (by rw [← hs.out, data_length]; exact h32))
          clear HA
          go_wp2
          go_ret
          exact ⟨by rw [e1.out, e2.out]; rfl, rfl⟩
      · obtain rfl : k = n := by omega
        have b0 : ¬ (k : Int) < (k : Int) := by omega
        rw [← hn, List.take_length] at hall
        go_wp2
        go_ret
        exact ⟨by rw [e1.out, hall.out]; rfl, rfl⟩
/-- T3 -/
def rootOut (l : List (List UInt8)) : List UInt8 × Int := if wrg l = 0 then (Tree.root l, 0) else ([], wrg l)
end Go.Proofs.YtkiibcfjjplkaaaDoor

namespace Go.Proofs.YtkiibcfjjplkaaaDoor.Tree
theorem path_length : ∀ (f m : Nat) (l : List T), l.length ≤ f → (path m l).length ≤ l.length
  | 0, m, l, h => by rw [path_small (by omega)]; simp
  | f + 1, m, l, h => by
    by_cases h2 : l.length < 2
    · rw [path_small h2]; simp
    · have a := sp_lt (n := l.length) (by omega)
      have b := sp_pos (n := l.length) (by omega)
      rw [path_cut (by omega)]
      split
      · have := path_length f m (l.take (sp l.length)) (by simp; omega)
        simp at *; omega
      · have := path_length f (m - sp l.length) (l.drop (sp l.length)) (by simp; omega)
        simp at *; omega
theorem proof_length : ∀ (f m : Nat) (l : List T) (whole : Bool), l.length ≤ f → 1 ≤ m → m ≤ l.length → (proof m l whole).length ≤ l.length
  | 0, m, l, _, h, h1, h2 => by omega
  | f + 1, m, l, whole, h, h1, h2 => by
    by_cases he : m = l.length
    · subst he
      cases whole
      · rw [proof_part h1]; simpa using h1
      · rw [proof_whole h1]; simp
    · have a := sp_lt (n := l.length) (by omega)
      have b := sp_pos (n := l.length) (by omega)
      by_cases hk : m ≤ sp l.length
      · rw [proof_left h1 (by omega) hk]
        have := proof_length f m (l.take (sp l.length)) whole (by simp; omega) h1 (by simp; omega)
        simp at *; omega
      · rw [proof_right h1 (by omega) hk]
        have := proof_length f (m - sp l.length) (l.drop (sp l.length)) false (by simp; omega) (by omega) (by simp; omega)
        simp at *; omega
theorem many_length : ∀ (f : Nat) (is : List Nat) (b : Nat) (l : List T), l.length ≤ f → 1 ≤ l.length → (many is b l).length ≤ l.length
  | 0, is, b, l, h, h1 => by omega
  | f + 1, is, b, l, h, h1 => by
    by_cases hi : is = []
    · subst hi; rw [many_none h1]; simpa using h1
    · by_cases h2 : l.length = 1
      · rw [many_one hi h2]; simp
      · have x := sp_lt (n := l.length) (by omega)
        have y := sp_pos (n := l.length) (by omega)
        rw [many_cut hi (by omega)]
        have := many_length f (is.filter (· < b + sp l.length)) b (l.take (sp l.length)) (by simp; omega) (by simp; omega)
        have := many_length f (is.filter (b + sp l.length ≤ ·)) (b + sp l.length) (l.drop (sp l.length)) (by simp; omega) (by simp; omega)
        simp at *; omega
end Go.Proofs.YtkiibcfjjplkaaaDoor.Tree
namespace Go.Proofs.YtkiibcfjjplkaaaDoor
open Go.RowKit
def svs (L : List (List UInt8)) : List Value := L.map sv
theorem svs_length (L : List (List UInt8)) : (svs L).length = L.length := by simp [svs]
theorem infoS : (Tryd.prog.info? 9).map (fun i => (i.zero, i.size, i.bytes)) = some (some (.string ⟨#[]⟩), 1, 16) := by kernel_rfl
/-- append(l, s) -/
theorem append_text (w : World) (base : Nat) (v : Value) (L : List (List UInt8)) (p : List UInt8) (hown : Own w base v (svs L)) (hlen : L.length ≤ 2000000) (hbase : base ≤ w.heap.size) :
    ∃ v' w', (Builtin.append_ #[28, 28] 28 #[v, .slice (some ⟨w.heap.size, 0, none⟩) 1 1]).run Tryd.prog (w.alloc (.cells #[sv p] 9)) = .ok v' w' ∧ Own w' base v' (svs (L ++ [p])) ∧ Below base w w' := by
  obtain ⟨i0, hi, hz0, hz1, hz2⟩ := info_parts infoS
  have hsrc : Src Tryd.prog 1 28 (.slice (some ⟨w.heap.size, 0, none⟩) 1 1) 1 [sv p] (w.alloc (.cells #[sv p] 9)) :=
    Src.ofSlice _ Tryd.underlying28 ⟨w.heap.size, 0, none⟩ 1 1 [sv p] (by simp) (fun j u hj => by
      rw [Addr.add_mid, cell_of_row _ _ _ _ _ _ (heap_alloc_new w _), Nat.zero_add]; simpa using hj) (fun u hu => by simp at hu; subst hu; rfl)
  obtain ⟨v', w', h1, h2, h3, h4⟩ := run_append_O (P := Tryd.prog) (w.alloc (.cells #[sv p] 9)) base 28 28 28 9 i0 (.string ⟨#[]⟩) Tryd.underlying28 hi hz0 hz1 rfl v (svs L) (hown.alloc _) _ 1 [sv p] hsrc
    (by rw [svs_length, hz2]; omega) (by rw [svs_length, maxLen]; omega) (by rw [size_alloc]; omega) (fun _ => by omega)
  refine ⟨v', w', h1, by simpa [svs] using h2, ?_⟩
  exact ((Below.refl base w).alloc hbase _).trans (Below.ofGrown h3 hown.ge (by rw [size_alloc]; omega))

/-- a list of one's own comes out -/
def Out (w : World) (L : List (List UInt8)) (e : Ending) (w' : World) : Prop := ∃ v, e = .returned v ∧ Own w' w.heap.size v (svs L) ∧ Below w.heap.size w w'
end Go.Proofs.YtkiibcfjjplkaaaDoor

namespace Go.Proofs.YtkiibcfjjplkaaaDoor
open Go.RowKit
theorem svs_one' {L : List (List UInt8)} {v : Value} (h : v ∈ svs L) : v.oneCell' = true := by
  simp only [svs, List.mem_map] at h
  obtain ⟨n, _, rfl⟩ := h
  rfl
/-- a row of texts -/
def Row (w : World) (H : Nat) (L : List (List UInt8)) : Prop := w.heap[H]? = some (.cells (svs L).toArray 9 (0, 0))
theorem Row.lt {w : World} {H : Nat} {L : List (List UInt8)} (h : Row w H L) : H < w.heap.size := lt_of_heap h
theorem Row.cell {w : World} {H : Nat} {L : List (List UInt8)} (h : Row w H L) {j : Nat} {p : List UInt8} (hp : L[j]? = some p) : w.cell? ⟨H, j, none⟩ = some (sv p) := by
  rw [cell_of_row _ _ _ _ _ _ h]; simp [svs, hp]
theorem Row.at {w : World} {H : Nat} {L : List (List UInt8)} (h : Row w H L) : At w (some ⟨H, 0, none⟩) L := fun j p hp => ⟨_, rfl, h.lt, by rw [Addr.add_mid, Nat.zero_add]; exact h.cell hp⟩
theorem Row.free {w : World} {H : Nat} {L : List (List UInt8)} (h : Row w H L) {j : Nat} (hj : j < L.length) : w.frozen? ⟨H, j, none⟩ = false := by
  have := (there_of_row h 0 L.length (by simp [svs])) j hj
  rw [Nat.zero_add] at this
  exact this.2
theorem Row.below {w w' : World} {H B : Nat} {L : List (List UInt8)} (h : Row w H L) (hb : Below B w w') (hB : H < B) : Row w' H L := by
  unfold Row; rw [hb.block H hB]; exact h
theorem Row.heap {w w' : World} {H : Nat} {L : List (List UInt8)} (h : Row w H L) (e : w'.heap = w.heap) : Row w' H L := by
  unfold Row; rw [e]; exact h
theorem Row.set {w : World} {H : Nat} {L : List (List UInt8)} (h : Row w H L) (k : Nat) (x : List UInt8) : Row (w.setCell ⟨H, k, none⟩ (sv x)) H (L.set k x) := by
  have e := setCell_eq_setRow w H k (svs L).toArray 9 (0, 0) (sv x) h
  unfold Row
  rw [e, setRow_heap _ _ _ _ _ _ h]
  refine congrArg (fun A => some (Obj.cells A 9 (0, 0))) ?_
  simp [svs, List.map_set]
theorem infoS1 : (Tryd.prog.info? 9).map (·.size) = some 1 := by kernel_rfl
/-- make([]string, c) -/
theorem make_texts (w : World) (c : Nat) (hc : c ≤ 8796093021960) :
    (Instr.makeSlice 28 (.int .i64 (c : Int)) (.int .i64 (c : Int))).run Tryd.prog w = .ok (.slice (some ⟨w.heap.size, 0, none⟩) c c) (w.alloc (.cells (svs (List.replicate c [])).toArray 9)) := by
  obtain ⟨i0, hi, hz0, hz1, hz2⟩ := info_parts infoS
  have h := run_make (P := Tryd.prog) w 28 9 i0 (.string ⟨#[]⟩) Tryd.underlying28 hi hz0 .i64 .i64 (c : Int) (c : Int) (by omega) (by omega) (by rw [hz2]; omega) (by omega)
  rw [Int.toNat_natCast, hz1, Nat.mul_one] at h
  have e : madeCells (Value.string ⟨#[]⟩).cells c = (svs (List.replicate c [])).toArray := by
    apply Array.ext'
    rw [show (madeCells (Value.string ⟨#[]⟩).cells c).toList = List.replicate c (.string ⟨#[]⟩) from toList_madeCells_one _ _]
    simp [svs]; exact .inr rfl
  rw [e] at h
  exact h
/-- copy(own, l) -/
theorem copy_texts (w : World) (H : Nat) (a : Option Addr) (cap' : Nat) (ps rest : List (List UInt8)) (hs : At w a ps) (hR : Row w H (List.replicate ps.length [] ++ rest)) (m cap : Nat) (hm : m = ps.length + rest.length) :
    ∃ w', (Builtin.copy_ #[28, 28] 3 #[.slice (some ⟨H, 0, none⟩) m cap, .slice a ps.length cap']).run Tryd.prog w = .ok (goInt ps.length) w' ∧ Row w' H (ps ++ rest) ∧ But H w w' := by
  by_cases h0 : ps.length = 0
  · obtain rfl : ps = [] := List.length_eq_zero_iff.1 h0
    exact ⟨w, run_copy_none (P := Tryd.prog) w _ _ _ 9 _ _ _ _ _ _ Tryd.underlying28 infoS1 (by simp), by simpa using hR, But.refl _ _⟩
  · obtain ⟨x, rfl, hx, _⟩ := hs 0 _ (List.getElem?_eq_getElem (by omega))
    have h := run_copy_row (P := Tryd.prog) w 28 28 3 9 H 0 m cap x ps.length cap' _ 9 (svs ps) Tryd.underlying28 infoS1 hR
      (by rw [svs_length]; exact (Nat.min_eq_left (by omega)).symm) (fun j u hu => by
        simp only [svs, List.getElem?_map, Option.map_eq_some_iff] at hu
        obtain ⟨p, hp, rfl⟩ := hu
        obtain ⟨y, hy, _, hc⟩ := hs j p hp
        cases hy
        exact hc) (by simp [svs]) (fun u hu => svs_one' hu)
    refine ⟨_, h.trans (by rw [svs_length]), ?_, (But.refl _ _).setRow _⟩
    unfold Row
    rw [setRow_heap _ _ _ _ _ _ hR]
    refine congrArg (fun A => some (Obj.cells A 9 (0, 0))) ?_
    simp [svs]
end Go.Proofs.YtkiibcfjjplkaaaDoor

namespace Go.Proofs.YtkiibcfjjplkaaaDoor
open Go.RowKit
/-- are all of 32 bytes? -/
def hsB (l : List (List UInt8)) : Bool := l.all (·.length == 32)
theorem fold_drop {H : List (List UInt8)} {j j' : Nat} (hj : j' = j + 1) (h : j + 1 < H.length) : Cut.fold (H.drop j) = Tree.nd (H[j]'(by omega)) (Cut.fold (H.drop j')) := by
  subst hj
  rw [List.drop_eq_getElem_cons (by omega), List.drop_eq_getElem_cons h]
  rfl
theorem fold_last {H : List (List UInt8)} {j : Nat} (h : j + 1 = H.length) : Cut.fold (H.drop j) = (H[j]'(by omega)) := by
  rw [List.drop_eq_getElem_cons (by omega), List.drop_eq_nil_of_le (by omega)]
  rfl
end Go.Proofs.YtkiibcfjjplkaaaDoor

namespace Go.Proofs.YtkiibcfjjplkaaaDoor
namespace Cut
open Tree
theorem push_len : ∀ (l : List (Nat × Nat)) (b n : Nat), (push l b n).length ≤ l.length + 1
  | [], _, _ => Nat.le_refl _
  | (p, m) :: l, b, n => by
    rw [push]
    split
    · have := push_len l p (2 * n)
      simp only [List.length_cons]; omega
    · simp
theorem pushAll_len : ∀ (l st : List (Nat × Nat)), (pushAll st l).length ≤ st.length + l.length
  | [], st => Nat.le_refl _
  | (b, n) :: l, st => by
    rw [pushAll]
    have := pushAll_len l (push st b n)
    have := push_len st b n
    simp only [List.length_cons]; omega
theorem cut_len_add {a b c : Nat} (h0 : c ≤ 1099511627776) (h1 : a ≤ b) (h2 : b ≤ c) : (cut a c).length ≤ (cut a b).length + (cut b c).length := by
  rw [← join_cut h0 h1 h2, List.length_reverse]
  have := pushAll_len (cut b c) (cut a b).reverse
  rwa [List.length_reverse] at this
theorem cut_len_end {a b k : Nat} (h0 : b + 2 ^ k ≤ 1099511627776) (h1 : a ≤ b) (hb : b % 2 ^ k = 0) (h2 : ¬ (b / 2 ^ k % 2 = 1 ∧ a + 2 ^ k ≤ b)) : (cut a (b + 2 ^ k)).length = (cut a b).length + 1 := by
  have hl : (List.replicate (cut a b).length ([] : T)).length = (cut a b).length := List.length_replicate
  have e1 := takeH_length (x := []) h0 h1 ⟨k, rfl⟩ hb hl
  have e2 := takeH_end (x := []) (by omega) h1 h2 hl
  rw [← e1, e2, List.length_append, hl]
  rfl
/-- from an aligned place on -/
theorem cut_len_right : ∀ (K a b : Nat), b ≤ 1099511627776 → a % 2 ^ K = 0 → a ≤ b → b < a + 2 ^ K → (cut a b).length ≤ K
  | 0, a, b, _, _, h2, h3 => by
    have : (2 : Nat) ^ 0 = 1 := rfl
    obtain rfl : a = b := by omega
    rw [cut_nil]; exact Nat.le_refl _
  | K + 1, a, b, h0, h1, h2, h3 => by
    have hK := two_pos K
    have hd := pow_double K
    have h1' := mod_of_le (Nat.le_succ K) h1
    by_cases h : b < a + 2 ^ K
    · have := cut_len_right K a b h0 h1' h2 h
      omega
    · have hg : grow 40 1 a b = 2 ^ K := grow_one h0 (by omega) h1' (by omega) (fun hh => by omega)
      rw [cut_cons h0 (by omega), hg, List.length_cons]
      have := cut_len_right K (a + 2 ^ K) b h0 (by rw [Nat.add_mod_right]; exact h1') (by omega) (by omega)
      omega
/-- up to an aligned place -/
theorem cut_len_left : ∀ (K a b : Nat), b ≤ 1099511627776 → b % 2 ^ K = 0 → a ≤ b → b < a + 2 ^ K → (cut a b).length ≤ K
  | 0, a, b, _, _, h2, h3 => by
    have : (2 : Nat) ^ 0 = 1 := rfl
    obtain rfl : a = b := by omega
    rw [cut_nil]; exact Nat.le_refl _
  | K + 1, a, b, h0, h1, h2, h3 => by
    have hK := two_pos K
    have hd := pow_double K
    have h1' := mod_of_le (Nat.le_succ K) h1
    by_cases h : b < a + 2 ^ K
    · have := cut_len_left K a b h0 h1' h2 h
      omega
    · obtain ⟨c, rfl⟩ : ∃ c, b = c + 2 ^ K := ⟨b - 2 ^ K, by omega⟩
      have hc : c % 2 ^ K = 0 := by rw [Nat.add_mod_right] at h1'; exact h1'
      rw [cut_len_end h0 (by omega) hc (fun hh => by omega)]
      have := cut_len_left K a c (by omega) hc (by omega) (by omega)
      omega
theorem cut_len_one {a k : Nat} (h0 : a + 2 ^ k ≤ 1099511627776) (h1 : a % 2 ^ k = 0) : (cut a (a + 2 ^ k)).length = 1 := by
  have hK := two_pos k
  rw [cut_len_end h0 (Nat.le_refl _) h1 (fun hh => by omega), cut_nil]
  rfl
theorem cut_len_in : ∀ (K c a b : Nat), b ≤ 1099511627776 → c % 2 ^ K = 0 → c ≤ a → a ≤ b → b ≤ c + 2 ^ K → (cut a b).length ≤ 2 * K + 1
  | 0, c, a, b, h0, _, h2, h3, h4 => by
    have := cov_len (cut_cov h0 h3)
    have : (2 : Nat) ^ 0 = 1 := rfl
    omega
  | K + 1, c, a, b, h0, h1, h2, h3, h4 => by
    have hK := two_pos K
    have hd := pow_double K
    have h1' := mod_of_le (Nat.le_succ K) h1
    have hm : (c + 2 ^ K) % 2 ^ K = 0 := by rw [Nat.add_mod_right]; exact h1'
    by_cases hb : b ≤ c + 2 ^ K
    · have := cut_len_in K c a b h0 h1' h2 h3 hb
      omega
    · by_cases ha : c + 2 ^ K ≤ a
      · have := cut_len_in K (c + 2 ^ K) a b h0 hm ha h3 (by omega)
        omega
      · have hadd := cut_len_add (a := a) (b := c + 2 ^ K) (c := b) h0 (by omega) (by omega)
        have h5 : (cut a (c + 2 ^ K)).length ≤ K + 1 := by
          by_cases e : a = c
          · subst e; rw [cut_len_one (by omega) h1']; omega
          · have := cut_len_left K a (c + 2 ^ K) (by omega) hm (by omega) (by omega); omega
        have h6 : (cut (c + 2 ^ K) b).length ≤ K + 1 := by
          by_cases e : b = c + 2 ^ K + 2 ^ K
          · subst e; rw [cut_len_one h0 hm]; omega
          · have := cut_len_right K (c + 2 ^ K) b h0 hm (by omega) (by omega); omega
        omega
/-- a span has few subtrees -/
theorem cut_len {a b : Nat} (h0 : b ≤ 1099511627776) (h : a ≤ b) : (cut a b).length ≤ 81 :=
  cut_len_in 40 0 a b h0 (Nat.zero_mod _) (Nat.zero_le _) h (Nat.le_trans h0 (by decide))
end Cut
end Go.Proofs.YtkiibcfjjplkaaaDoor
