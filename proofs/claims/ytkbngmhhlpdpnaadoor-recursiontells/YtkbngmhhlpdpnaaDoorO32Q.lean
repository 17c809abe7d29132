import Derived.Test.YtkbngmhhlpdpnaaDoorO28Q
namespace Go.Proofs.YtkbngmhhlpdpnaaDoor
open Go.RowKit
def spare : List UInt8 := [115, 112, 97, 114, 101]
theorem spare_sv : sv spare = .string ⟨#[115, 112, 97, 114, 101]⟩ := rfl
def behind (j : Nat) : List (List UInt8) := List.replicate j spare ++ List.replicate (8 - j) []
theorem behind_len (j : Nat) (h : j ≤ 8) : (behind j).length = 8 := by simp [behind]; omega
theorem behind_set : ∀ j : Fin 8, (behind j.val).set j.val spare = behind (j.val + 1) := by decide
theorem behind_get : ∀ j : Fin 8, (behind 8)[j.val]? = some spare := by decide
theorem behind_step (ps : List (List UInt8)) (j : Nat) (h : j < 8) : (ps ++ behind j).set (ps.length + j) spare = ps ++ behind (j + 1) := by
  rw [List.set_append_right _ _ (by omega), show ps.length + j - ps.length = j from by omega, behind_set ⟨j, h⟩]
set_option maxRecDepth 100000 in
set_option maxHeartbeats 1000000 in
theorem lent_any (ps : List (List UInt8)) (a : Option Addr) (cap : Nat) (w : World) (hn : ps.length ≤ 8796093021952) (hA : At w a ps) :
    Calls Tryd.prog 10 #[.slice a ps.length cap] w fun e w' => e = .returned (.slice (some ⟨w.heap.size, 0, none⟩) (ps.length + 8) (ps.length + 8)) ∧ Row w' w.heap.size (ps ++ behind 8) ∧ Below w.heap.size w w' := by
  have hmk := make_texts w (ps.length + 8) (by omega)
  have e8 : ((ps.length + 8 : Nat) : Int) = (ps.length : Int) + 8 := by omega
  rw [e8] at hmk
  have R1 : Row (w.alloc (.cells (svs (List.replicate (ps.length + 8) [])).toArray 9)) w.heap.size (List.replicate ps.length [] ++ List.replicate 8 []) := by
    rw [List.replicate_append_replicate]; exact heap_alloc_new w _
  have hb1 := (Below.refl w.heap.size w).alloc (Nat.le_refl _) (.cells (svs (List.replicate (ps.length + 8) [])).toArray 9)
  obtain ⟨w2, hcp, hR2, hb2⟩ := copy_texts _ w.heap.size a cap ps (List.replicate 8 []) (hA.below hb1 (Nat.le_refl _)) R1 (ps.length + 8) (ps.length + 8) (by simp)
  have B2 : Below w.heap.size w w2 := hb1.trans (hb2.below (Nat.le_refl _) (by rw [size_alloc]; omega))
  have HR2 := hid hR2
  have HB2 := hid B2
  clear hR2 B2 R1 hb2 hb1 hA
  generalize w.alloc (.cells (svs (List.replicate (ps.length + 8) [])).toArray 9) = w1 at *
  obtain ⟨n, hpn⟩ : ∃ n, ps.length = n := ⟨_, rfl⟩
  rw [hpn] at hmk hcp hn ⊢
  go_enter Tryd.func10, Tryd.ntmps10
  go_wp2
  clear hcp hmk
  go_loopw [4] (fun i w' => ∃ j : Nat, j ≤ 8 ∧ i = .int .i64 ((n : Int) + (j : Int)) ∧ Hid (Row w' w.heap.size (ps ++ behind j)) ∧ Hid (Below w.heap.size w w')) (fun i _ => n + 8 - (intOf i).toNat)
  case atStart => exact ⟨0, by omega, by simp, HR2, HB2⟩
  case round =>
    clear HR2 HB2
    obtain ⟨j, hj, rfl, hR, hB⟩ := hrel
    by_cases hlt : j < 8
    · have b0 : (n : Int) + (j : Int) < (n : Int) + 8 := by omega
      have b1 : (0 : Int) ≤ (n : Int) + (j : Int) := by omega
      have t1 : ((n : Int) + (j : Int)).toNat = n + j := by omega
      have hl : (ps ++ behind j).length = n + 8 := by rw [List.length_append, behind_len j (by omega), hpn]
      have cp := hR.out.cell (List.getElem?_eq_getElem (show n + j < (ps ++ behind j).length by omega))
      have fz := hR.out.free (show n + j < (ps ++ behind j).length by omega)
      have R' := hR.out.set (n + j) spare
      rw [← hpn, behind_step ps j hlt, hpn] at R'
      have B' := hid (hB.out.setCell (p := ⟨w.heap.size, n + j, none⟩) (Nat.le_refl _) (sv spare))
      rw [spare_sv] at R' B'
      have R'' := hid R'
      clear R' hR hB
      go_wp2
      exact ⟨⟨j + 1, by omega, by rw [show (n : Int) + (j : Int) + 1 = (n : Int) + ((j + 1 : Nat) : Int) from by omega], R'', B'⟩, by simp [intOf]; omega⟩
    · obtain rfl : j = 8 := by omega
      have b0 : ¬ (n : Int) + ((8 : Nat) : Int) < (n : Int) + 8 := by omega
      go_wp2
      go_ret
      exact ⟨rfl, hR.out, hB.out⟩
set_option maxRecDepth 100000 in
set_option maxHeartbeats 1000000 in
theorem kept_yes (ps : List (List UInt8)) (H : Nat) (a : Option Addr) (cap : Nat) (w : World) (hn : ps.length ≤ 8796093021952) (hR : Row w H (ps ++ behind 8)) (hA : At w a ps) :
    Calls Tryd.prog 19 #[.slice (some ⟨H, 0, none⟩) (ps.length + 8) (ps.length + 8), .slice a ps.length cap] w fun e w' => e = .returned (.bool true) ∧ Below w.heap.size w w' ∧ w'.heap = w.heap := by
  have hA1 : At w (some ⟨H, 0, none⟩) ps := by
    have := hR.at.take ps.length
    rwa [List.take_left] at this
  have cS := same_yes ps (some ⟨H, 0, none⟩) a (ps.length + 8) cap w hA1 hA (by omega)
  have HR := hid hR
  obtain ⟨n, hpn⟩ : ∃ n, ps.length = n := ⟨_, rfl⟩
  rw [hpn] at cS hn ⊢
  clear hA hA1 hR
  have hnn : (n : Int) ≤ (n : Int) + 8 := by omega
  go_enter Tryd.func19, Tryd.ntmps19
  go_wp2
  go_loopw [5] (fun i w' => ∃ j : Nat, j ≤ 8 ∧ i = .int .i64 ((n : Int) + (j : Int)) ∧ w' = w) (fun i _ => n + 8 - (intOf i).toNat)
  case atStart => exact ⟨0, by omega, by simp, rfl⟩
  case round =>
    obtain ⟨j, hj, rfl, rfl⟩ := hrel
    by_cases hlt : j < 8
    · have b0 : (n : Int) + (j : Int) < (n : Int) + 8 := by omega
      have b1 : (0 : Int) ≤ (n : Int) + (j : Int) := by omega
      have t1 : ((n : Int) + (j : Int)).toNat = n + j := by omega
      have cp := HR.out.cell (j := n + j) (p := spare) (by
        rw [List.getElem?_append_right (by omega), hpn, show n + j - n = j from by omega]
        exact behind_get ⟨j, hlt⟩)
      rw [spare_sv] at cp
      go_wp2
      exact ⟨⟨j + 1, by omega, by rw [show (n : Int) + (j : Int) + 1 = (n : Int) + ((j + 1 : Nat) : Int) from by omega], trivial⟩, by simp [intOf]; omega⟩
    · obtain rfl : j = 8 := by omega
      have b0 : ¬ (n : Int) + ((8 : Nat) : Int) < (n : Int) + 8 := by omega
      go_wp2_with (go_at_call 17; refine cS.mono ?_; rintro e w9 ⟨rfl, hw9, hh9⟩)
      go_ret
      exact ⟨rfl, hw9, hh9⟩
end Go.Proofs.YtkbngmhhlpdpnaaDoor

namespace Go.Proofs.YtkbngmhhlpdpnaaDoor
open Go.RowKit
theorem Root_at {l : List (List UInt8)} {r : List UInt8} {z : Int} (h : Hid (rootOut l = (r, z))) (a : Option Addr) (cap : Nat) (w : World) (hl : l.length ≤ cap) (hc : cap ≤ 9223372036854775807) (hA : At w a l) (T : Tabs w) :
    Calls Tryd.prog 33 #[.slice a l.length cap] w fun e w' => e = .returned (.tuple #[sv r, .int .i64 z]) ∧ Below w.heap.size w w' := by
  have := Root_any l a cap w hl hc hA T
  rwa [h.out] at this
theorem Row.first {w : World} {H : Nat} {ps r : List (List UInt8)} (h : Row w H (ps ++ r)) : At w (some ⟨H, 0, none⟩) ps := by
  have := h.at.take ps.length
  rwa [List.take_left] at this
/-- append([]string(nil), l...) -/
theorem append_copy (w : World) (a : Option Addr) (cap : Nat) (L : List (List UInt8)) (hA : At w a L) (hlen : L.length ≤ 8796093021952) :
    ∃ v' w', (Builtin.append_ #[22, 22] 22 #[.slice none 0 0, .slice a L.length cap]).run Tryd.prog w = .ok v' w' ∧ Own w' w.heap.size v' (svs L) ∧ Below w.heap.size w w' := by
  obtain ⟨i0, hi, hz0, hz1, hz2⟩ := info_parts infoS
  by_cases h0 : L.length = 0
  · obtain rfl : L = [] := List.length_eq_zero_iff.1 h0
    have hsrc : Src Tryd.prog 1 22 (.slice a 0 cap) 0 [] w := by
      cases a with
      | none => exact Src.ofNil w Tryd.underlying22 cap
      | some x => exact Src.ofSlice w Tryd.underlying22 x 0 cap [] (by simp) (fun j u hj => by simp at hj) (fun u hu => by simp at hu)
    exact ⟨_, w, append_zero w _ hsrc, Own.nil _ _, Below.refl _ _⟩
  · obtain ⟨x, rfl⟩ := hA.pos (by omega)
    have hsrc : Src Tryd.prog 1 22 (.slice (some x) L.length cap) L.length (svs L) w :=
      Src.ofSlice w Tryd.underlying22 x L.length cap (svs L) (by rw [svs_length, Nat.mul_one]) (fun j u hj => by
        simp only [svs, List.getElem?_map, Option.map_eq_some_iff] at hj
        obtain ⟨p, hp, rfl⟩ := hj
        obtain ⟨y, hy, _, hc⟩ := hA j p hp
        obtain rfl := Option.some.inj hy
        exact hc) (fun u hu => svs_one hu)
    obtain ⟨v', w', h1, h2, h3, h4⟩ := run_append_O (P := Tryd.prog) w w.heap.size 22 22 22 9 i0 (.string ⟨#[]⟩) Tryd.underlying22 hi hz0 hz1 rfl (.slice none 0 0) [] (Own.nil _ _) _ L.length (svs L) hsrc
      (by rw [hz2]; simp; omega) (by rw [maxLen]; simp; omega) (Nat.le_refl _) (fun _ => by omega)
    exact ⟨v', w', h1, by simpa using h2, Below.ofGrown (v := .slice none 0 0) h3 (fun k hk => by cases hk) (Nat.le_refl _)⟩
/-- turned round, the first k of them -/
def rv (l : List (List UInt8)) (k : Nat) : List (List UInt8) := l.reverse.take k ++ l.drop k
theorem rv_len (l : List (List UInt8)) (k : Nat) (hk : k ≤ l.length) : (rv l k).length = l.length := by simp [rv]; omega
theorem rv_zero (l : List (List UInt8)) : rv l 0 = l := by simp [rv]
theorem rv_all (l : List (List UInt8)) : rv l l.length = l.reverse := by
  rw [rv, List.drop_length, List.append_nil, List.take_of_length_le (by simp)]
theorem rv_step (l : List (List UInt8)) (k : Nat) (hk : k < l.length) (p : List UInt8) (hp : l[l.length - 1 - k]? = some p) (r : List (List UInt8)) : (rv l k ++ r).set k p = rv l (k + 1) ++ r := by
  have hr : l.reverse[k]? = some p := by rw [List.getElem?_reverse (by omega)]; exact hp
  have e1 : l.reverse.take (k + 1) = l.reverse.take k ++ [p] := by rw [List.take_add_one, hr]; rfl
  have hd : l.drop k = l[k] :: l.drop (k + 1) := List.drop_eq_getElem_cons hk
  have hl : (l.reverse.take k).length = k := by simp; omega
  rw [rv, rv, e1, hd, List.append_assoc, List.append_assoc, List.append_assoc, List.set_append_right _ _ (by omega), hl, Nat.sub_self]
  rfl
theorem setCell_but (w : World) (H k : Nat) (u : Value) : But H w (w.setCell ⟨H, k, none⟩ u) := But.setCells [u] k (But.refl H w)
end Go.Proofs.YtkbngmhhlpdpnaaDoor
